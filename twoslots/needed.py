"""Which terms are needed, and why."""

from twoslots.errors import BadHeld
from twoslots.names import is_list, is_number_below
from twoslots.orders import Order
from twoslots.sources import need_source
from twoslots.terms import need_number
from twoslots.worked import is_read, marks_under, parts_of


def told_terms(source):
    """The numbers of the told terms, in the order of their tells."""
    return [number for _, number in source.worked().told]


def needed_terms(source):
    need_source(source)
    rows = source.worked().rows
    marks = marks_under(rows, told_terms(source), {})
    return [number for number, row in enumerate(rows) if marks[number] and not is_read(row)]


def fewest_makings(source):
    return len(needed_terms(source))


def order_of(source):
    return order_among(source, needed_terms(source))


def order_among(source, numbers):
    """The order of some terms as things, each ahead of what it is a part of, and so on through these alone."""
    thing_of = {number: thing for thing, number in enumerate(numbers)}
    pairs = []
    for thing, number in enumerate(numbers):
        for part in parts_of(source.worked().rows[number]):
            if part in thing_of:
                pairs.append((thing_of[part], thing))
    return Order(len(numbers), pairs)


def need_held(source, held):
    if not is_list(held):
        raise BadHeld(0)
    stood = {}
    for index, thing in enumerate(held):
        if not is_number_below(thing, len(source.worked().rows)) or thing in stood:
            raise BadHeld(index)
        stood[thing] = True


def wanted_terms(source, held):
    need_source(source)
    need_held(source, held)
    wanted = wanted_with(source, {number: True for number in held})
    return None if lost_names(source, wanted) else wanted


def wanted_with(source, held):
    """The numbers, ascending, of what is wanted where the terms in a dict are held; lost reads are among them."""
    marks = marks_under(source.worked().rows, told_terms(source), held)
    return [number for number, mark in enumerate(marks) if mark]


def lost_names(source, wanted):
    """The read names, ascending, among some wanted terms."""
    rows = source.worked().rows
    return sorted([rows[number][1] for number in wanted if is_read(rows[number])])


def order_from(source, held):
    wanted = wanted_terms(source, held)
    return None if wanted is None else order_among(source, wanted)


def marks_above(rows, number):
    """For each term whether it is one, or has it as a part, at some depth."""
    marks = []
    for at, row in enumerate(rows):
        marks.append(at == number or any([marks[part] for part in parts_of(row)]))
    return marks


def why_needed(source, number):
    need_source(source)
    need_number(source, number)
    rows = source.worked().rows
    marks = marks_above(rows, number)
    for place, told in enumerate(told_terms(source)):
        if marks[told]:
            return (place, first_path_down(rows, marks, told, number))
    return None


def first_path_down(rows, marks, number, last):
    """The first list of indexes of parts that leads down, by marked terms, to a last one."""
    path = []
    while number != last:
        at = [index for index, part in enumerate(rows[number][1]) if marks[part]][0]
        path.append(at)
        number = rows[number][1][at]
    return path


def why_idle(source, number):
    need_source(source)
    need_number(source, number)
    marks = marks_above(source.worked().rows, number)
    if any([marks[told] for told in told_terms(source)]):
        return None
    return [at for at, mark in enumerate(marks) if mark]
