"""Boxes: what all operations give, and what terms have by them."""

from twoslots.errors import BadBox
from twoslots.names import is_integer, is_list, is_name
from twoslots.worked import is_read


def is_box(thing):
    if not is_list(thing) or len(thing) != 3 or not is_integer(thing[2]):
        return False
    return are_rows(thing[0]) and are_starts(thing[1])


def are_rows(thing):
    """Whether a thing is a list of triples (operation, values, value) without two of one operation on the same."""
    if not is_list(thing):
        return False
    stood = {}
    for row in thing:
        if not is_row(row) or (row[0], tuple(row[1])) in stood:
            return False
        stood[(row[0], tuple(row[1]))] = True
    return True


def is_row(thing):
    if not is_list(thing) or len(thing) != 3:
        return False
    if not is_name(thing[0]) or not is_list(thing[1]) or not is_integer(thing[2]):
        return False
    return all([is_integer(value) for value in thing[1]])


def are_starts(thing):
    """Whether a thing is a list of pairs (name, value) of unlike names."""
    if not is_list(thing):
        return False
    stood = {}
    for pair in thing:
        if not is_list(pair) or len(pair) != 2 or not is_name(pair[0]) or not is_integer(pair[1]):
            return False
        if pair[0] in stood:
            return False
        stood[pair[0]] = True
    return True


def need_box(box):
    if not is_box(box):
        raise BadBox(box)


class Tables:
    """What a box tells, to be looked up."""

    def __init__(self, box):
        self._results = {(operation, tuple(values)): value for operation, values, value in box[0]}
        self._starts = {name: value for name, value in box[1]}
        self._other = box[2]

    def start(self, name):
        return self._starts.get(name, self._other)

    def result(self, operation, values):
        return self._results.get((operation, tuple(values)), self._other)


def values_of(rows, box):
    """The values that the terms have by a box, in their order."""
    tables = Tables(box)
    values = []
    for row in rows:
        if is_read(row):
            values.append(tables.start(row[1]))
        else:
            values.append(tables.result(row[0], [values[part] for part in row[1]]))
    return values


def copied_box(box):
    """A box with tuples throughout."""
    rows = tuple([(operation, tuple(values), value) for operation, values, value in box[0]])
    return (rows, tuple([(name, value) for name, value in box[1]]), box[2])
