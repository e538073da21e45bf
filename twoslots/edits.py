"""What an edit costs, and which edited lines cost hours."""

from twoslots.changing import new_terms
from twoslots.errors import BadLines
from twoslots.needed import order_of
from twoslots.plans import fewest_hours
from twoslots.sources import Source, need_source


def edit_cost(source, other):
    new = new_terms(source, other)
    hours = fewest_hours(order_of(other)) - fewest_hours(order_of(source))
    return (hours, new, new_terms(other, source))


def blamed(source, other):
    need_source(source)
    need_source(other)
    hours = fewest_hours(order_of(other))
    found = []
    for at, line in lines_taken_back(source, other):
        without = source_or_none(with_line(other.lines(), at, line))
        if without is not None and fewest_hours(order_of(without)) < hours:
            found.append((at + 1, fewest_hours(order_of(without))))
    return found


def lines_taken_back(source, other):
    """The pairs (index, line) of all lines of the other that can be taken back and what they are then."""
    given = {}
    for line in source.lines():
        if line[0] == "give":
            given.setdefault(line[1], []).append(line)
    stood = {}
    found = []
    for at, line in enumerate(other.lines()):
        if line[0] != "give":
            continue
        times = stood.get(line[1], 0)
        stood[line[1]] = times + 1
        if times < len(given.get(line[1], [])):
            found.append((at, given[line[1]][times]))
    return found


def with_line(lines, at, line):
    return lines[:at] + [line] + lines[at + 1:]


def source_or_none(lines):
    """The source that has these lines, None if they are none's."""
    try:
        return Source(lines)
    except BadLines:
        return None
