"""Plans of the fewest hours, counted and numbered as lists compare."""

from twoslots.begun import hours_of_some
from twoslots.errors import BadNumber
from twoslots.names import is_number_below
from twoslots.orders import need_order
from twoslots.placed import placed_of
from twoslots.planfaults import need_plan


class PlanCounts:
    """How many plans of the fewest hours there are of what can be left of an order."""

    def __init__(self, placed):
        self._placed = placed
        self._hours = {0: 0}
        self._counts = {0: 1}

    def hours(self, left):
        if left not in self._hours:
            self._hours[left] = len(self._placed.hours_of(left))
        return self._hours[left]

    def count(self, left):
        if left not in self._counts:
            self._counts[left] = sum([self.count(rest) for _, rest in self.next_hours(left)])
        return self._counts[left]

    def next_hours(self, left):
        """The pairs, ascending, of an hour with which a best plan of what is left begins, and what is left then."""
        found = []
        for hour in hours_of_some(self._placed.next_things(left)):
            rest = left ^ self._placed.ranks(hour)
            if self.hours(rest) < self.hours(left):
                found.append((hour, rest))
        return found


def counts_of(order):
    """The counts of an order's plans, which are worked out once."""
    kept = order.kept()
    if "plancounts" not in kept:
        kept["plancounts"] = PlanCounts(placed_of(order))
    return kept["plancounts"]


def all_of(order):
    return placed_of(order).left_behind([])


def count_plans(order):
    need_order(order)
    return counts_of(order).count(all_of(order))


def plan_at(order, number):
    if not is_number_below(number, count_plans(order)):
        raise BadNumber(number)
    counts = counts_of(order)
    left = all_of(order)
    plan = []
    while left:
        hour, left, number = hour_with(counts, left, number)
        plan.append(hour)
    return plan


def hour_with(counts, left, number):
    """The next hour of the plan with a number, what is left behind it, and its number among those that go on so."""
    for hour, rest in counts.next_hours(left):
        many = counts.count(rest)
        if number < many:
            return hour, rest, number
        number = number - many
    return None, 0, number


def plan_number(order, plan):
    need_order(order)
    need_plan(order, plan)
    if len(plan) > placed_of(order).many_hours():
        return None
    counts = counts_of(order)
    left = all_of(order)
    number = 0
    for hour in plan:
        mine = list(hour)
        number = number + sum([counts.count(rest) for other, rest in counts.next_hours(left) if other < mine])
        left = left ^ placed_of(order).ranks(mine)
    return number
