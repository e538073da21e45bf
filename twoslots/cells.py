"""How long the values of a source lie in cells by a plan, and how many cells are wanted."""

from twoslots.needed import needed_terms, order_among, told_terms
from twoslots.planfaults import need_plan
from twoslots.sources import need_source
from twoslots.worked import is_read, parts_of


class Values:
    """The values of a source: all that it reads and its needed terms, by the numbers of their terms."""

    def __init__(self, source):
        need_source(source)
        rows = source.worked().rows
        self._rows = rows
        needed = needed_terms(source)
        is_needed = {number: True for number in needed}
        # Things of plans are the places of needed terms in this list.
        self.needed = needed
        self.order = order_among(source, needed)
        self.numbers = [number for number, row in enumerate(rows) if is_read(row) or number in is_needed]
        self.parts = {number: parts_of(rows[number]) for number in self.numbers}
        self.told = {number: True for number in told_terms(source)}

    def lives(self, plan):
        """From each value, ascending, to the hour in which it is made and its last one."""
        made = {number: 0 for number in self.numbers}
        made.update(hours_made(self.needed, plan))
        return lives_by(self._rows, made, self.told, len(plan))


def hours_made(numbers, plan):
    """From each of some terms, which are the things of a plan by their places, to its hour."""
    return {numbers[thing]: at + 1 for at, hour in enumerate(plan) for thing in hour}


def lives_by(rows, made, told, hours):
    """From each value to the hour in which it is made and its last one.

    rows are the terms, made is from the values to these hours, 0 of what is there at the begin,
    told has the told ones, and there are so many hours.
    """
    last = {value: 1 for value in made}
    for value, hour in made.items():
        for part in parts_of(rows[value]) if hour > 0 else ():
            last[part] = max(last[part], hour)
    for value in told:
        last[value] = hours + 1
    return {value: (hour, last[value]) for value, hour in made.items()}


def values_by(source, plan):
    """The values of a source, once it is one and has this plan."""
    values = Values(source)
    need_plan(values.order, plan)
    return values


def lives(source, plan):
    return values_by(source, plan).lives(plan)


def waiting(source, plan):
    return waiting_by(lives(source, plan), len(plan))


def waiting_by(spans, hours):
    """For the begin and each hour the values that wait behind it; spans are from values to lives."""
    rows = [[] for _ in range(hours + 1)]
    for value, (made, last) in spans.items():
        for hour in range(made, last):
            rows[hour].append(value)
    return rows


def many_waiting(spans, hours):
    """How many values wait behind the begin and behind each hour."""
    change = [0 for _ in range(hours + 2)]
    for made, last in spans.values():
        change[made] += 1
        change[last] -= 1
    many = []
    for by in change[:-1]:
        many.append(by + (many[-1] if many else 0))
    return many


def most_waiting(spans, hours):
    return max(many_waiting(spans, hours))


def first_crowded(spans, hours):
    """The first hour behind which most wait."""
    many = many_waiting(spans, hours)
    return many.index(max(many))


def fewest_cells(source, plan):
    return most_waiting(lives(source, plan), len(plan))


def crowded_hour(source, plan):
    return first_crowded(lives(source, plan), len(plan))
