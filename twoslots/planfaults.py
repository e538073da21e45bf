"""What is wrong first with what should be a plan, or one that is begun."""

from twoslots.errors import BadBegun, BadPlan
from twoslots.names import is_list, is_number_below
from twoslots.programs import SLOTS


def is_ascending(thing, many):
    """Whether a thing is an ascending list of unlike numbers below many."""
    if not is_list(thing) or not all([is_number_below(part, many) for part in thing]):
        return False
    return all([thing[at - 1] < thing[at] for at in range(1, len(thing))])


def hours_fault(order, thing):
    """What is wrong first, but for what lacks; None if nothing is."""
    if not is_list(thing):
        return ("form", 0)
    ahead = order.ahead_bits()
    made = 0
    for at, hour in enumerate(thing):
        if not is_ascending(hour, len(ahead)) or len(hour) > SLOTS:
            return ("form", at + 1)
        for number in hour:
            if made & (1 << number):
                return ("again", at + 1, number)
        for number in hour:
            if ahead[number] & made != ahead[number]:
                return ("early", at + 1, number)
        for number in hour:
            made = made | (1 << number)
    return None


def first_lacking(order, hours):
    """The least number that is not made in some hours, None if all are."""
    made = {number: True for hour in hours for number in hour}
    for number in range(order.many()):
        if number not in made:
            return number
    return None


def fault_of_plan(order, thing):
    fault = hours_fault(order, thing)
    if fault is not None:
        return fault
    number = first_lacking(order, thing)
    return None if number is None else ("lacks", number)


def need_plan(order, plan):
    if fault_of_plan(order, plan) is not None:
        raise BadPlan(plan)


def need_begun(order, begun):
    if hours_fault(order, begun) is not None:
        raise BadBegun(begun)
