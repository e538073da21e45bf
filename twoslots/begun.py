"""Plans that are begun, and how they go on."""

from twoslots.orders import need_order
from twoslots.placed import placed_of
from twoslots.planfaults import hours_fault, need_begun
from twoslots.plans import need_hours


def begun_fault(order, thing):
    need_order(order)
    return hours_fault(order, thing)


def hours_left(order, begun):
    need_order(order)
    need_begun(order, begun)
    placed = placed_of(order)
    return len(placed.hours_of(placed.left_behind(begun)))


def next_hours(order, begun, hours):
    need_order(order)
    need_begun(order, begun)
    need_hours(hours)
    placed = placed_of(order)
    left = placed.left_behind(begun)
    rest = hours - len(begun) - 1
    return [hour for hour in hours_of_some(placed.next_things(left))
            if len(placed.hours_of(left ^ placed.ranks(hour))) <= rest]


def hours_of_some(things):
    """All ascending lists of one or two of some ascending things, ascending."""
    found = []
    for at, one in enumerate(things):
        found.append([one])
        for other in things[at + 1:]:
            found.append([one, other])
    return found
