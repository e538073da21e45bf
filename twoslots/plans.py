"""Plans: what of an order is made in which hour, in as few hours as can be."""

from twoslots.errors import BadNumber
from twoslots.names import is_number
from twoslots.orders import need_order
from twoslots.placed import placed_of
from twoslots.planfaults import fault_of_plan
from twoslots.programs import SLOTS


def need_hours(hours):
    if not is_number(hours):
        raise BadNumber(hours)


def fewest_hours(order):
    need_order(order)
    return placed_of(order).many_hours()


def best_plan(order):
    need_order(order)
    placed = placed_of(order)
    return [placed.things(hour) for hour in placed.hours()]


def plan_within(order, hours):
    need_order(order)
    need_hours(hours)
    return best_plan(order) if fewest_hours(order) <= hours else None


def plan_fault(order, thing):
    need_order(order)
    return fault_of_plan(order, thing)


def empty_slots(order):
    return SLOTS * fewest_hours(order) - order.many()
