"""What could be made in another hour so that fewer cells are wanted."""

from twoslots.cells import most_waiting, values_by
from twoslots.programs import SLOTS


def lighter_moves(source, plan):
    values = values_by(source, plan)
    fewest = most_waiting(values.lives(plan), len(plan))
    found = []
    for thing in range(values.order.many()):
        for hour in free_hours(values.order, plan, thing):
            other = moved(plan, thing, hour)
            cells = most_waiting(values.lives(other), len(other))
            if cells < fewest:
                found.append((thing, hour, cells))
    return found


def free_hours(order, plan, thing):
    """The other hours of a plan, ascending, with a slot free, in which a thing can be made, alone."""
    hour_of = {one: at + 1 for at, hour in enumerate(plan) for one in hour}
    first = max([hour_of[one] + 1 for one in order.ahead(thing)], default=1)
    last = min([hour_of[one] - 1 for one in order.behind(thing)], default=len(plan))
    return [hour for hour in range(first, last + 1) if hour != hour_of[thing] and len(plan[hour - 1]) < SLOTS]


def moved(plan, thing, hour):
    """The plan with a thing in another hour; if its last hour is emptied so, this falls away."""
    rows = [[one for one in row if one != thing] for row in plan]
    rows[hour - 1] = sorted(rows[hour - 1] + [thing])
    if thing in plan[-1] and not rows[-1]:
        rows.pop()
    return rows
