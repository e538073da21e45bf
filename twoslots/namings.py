"""Namings: a cell for each value, and how many there are."""

from twoslots.cells import lives, most_waiting
from twoslots.errors import BadCells
from twoslots.names import MOST_CELLS, is_cell, is_integer, is_number_below


def need_cells(cells):
    if not is_number_below(cells, MOST_CELLS + 1):
        raise BadCells(cells)


def naming(source, plan, cells):
    spans = lives(source, plan)
    need_cells(cells)
    return None if most_waiting(spans, len(plan)) > cells else cells_for(spans)


def cells_for(spans):
    """From each value, ascending, to a cell, such that as few cells as can be are taken.

    spans are from values to the pairs (made, last); those that are made in one hour wait behind it.
    """
    return cells_beside({}, spans)


def cells_beside(given, spans):
    """Cells as by cells_for, where the values of hour 0 in a dict have their cells by now; it has all or none."""
    held = {}
    chosen = {}
    for value in by_made(spans):
        made = spans[value][0]
        held = {cell: other for cell, other in held.items() if spans[other][1] > made}
        cell = given.get(value, 1)
        while cell in held:
            cell += 1
        held[cell] = value
        chosen[value] = cell
    return {value: chosen[value] for value in sorted(chosen)}


def by_made(spans):
    """The values by the hours in which they are made, then ascending."""
    return sorted(list(spans), key=lambda value: (spans[value][0], value))


def do_meet(one, other):
    """Whether two values, by their lives, wait behind one hour."""
    return one[0] < other[1] and other[0] < one[1]


def naming_fault(source, plan, thing):
    spans = lives(source, plan)
    if not is_naming_of(thing, spans):
        return ("kind",)
    values = list(spans)
    for at, one in enumerate(values):
        for other in values[at + 1:]:
            if thing[one] == thing[other] and do_meet(spans[one], spans[other]):
                return ("shared", one, other)
    return None


def is_naming_of(thing, spans):
    """Whether a thing is a dict from just all values to cells."""
    if not isinstance(thing, dict) or len(thing) != len(spans):
        return False
    for value, cell in thing.items():
        if not is_integer(value) or value not in spans or not is_cell(cell):
            return False
    return True


def count_namings(source, plan, cells):
    spans = lives(source, plan)
    need_cells(cells)
    many = 1
    waits = []
    for value in by_made(spans):
        made = spans[value][0]
        waits = [other for other in waits if spans[other][1] > made]
        many = many * max(0, cells - len(waits))
        waits.append(value)
    return many
