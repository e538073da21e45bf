"""What is to be carried over where a source is cut behind a line."""

from twoslots.errors import BadLine
from twoslots.flows import Ways
from twoslots.names import is_list, is_number_below
from twoslots.needed import told_terms
from twoslots.sources import need_source
from twoslots.worked import is_read, parts_of


def fewest_carried(source, line):
    return len(carried_terms(source, line))


def carried_terms(source, line):
    need_line(source, line)
    return Cut(source, line).ways_through().bar()


def carried_ways(source, line):
    need_line(source, line)
    cut = Cut(source, line)
    return [cut.way_down_to(way[0]) + way[1:] for way in cut.ways_through().ways()]


def is_carried(source, line, thing):
    need_line(source, line)
    if not is_list(thing):
        return False
    many = source.worked().counts[line]
    lot = {}
    for number in thing:
        if not is_number_below(number, many) or number in lot:
            return False
        lot[number] = True
    return Cut(source, line).is_barred_by(lot)


def are_ways(source, line, thing):
    need_line(source, line)
    if not is_list(thing):
        return False
    many = source.worked().counts[line]
    stood = {}
    for way in thing:
        if not is_way(source, many, way):
            return False
        for number in [part for part in way if part < many]:
            if number in stood:
                return False
            stood[number] = True
    return True


def need_line(source, line):
    need_source(source)
    if not is_number_below(line, len(source.worked().counts)):
        raise BadLine(line)


def is_way(source, many, thing):
    """Whether a thing is a way, where so many terms, the first ones, are available."""
    rows = source.worked().rows
    if not is_list(thing) or not thing or not all([is_number_below(part, len(rows)) for part in thing]):
        return False
    for at in range(1, len(thing)):
        if thing[at] not in parts_of(rows[thing[at - 1]]):
            return False
    return thing[0] in told_terms(source) and thing[-1] < many and is_read(rows[thing[-1]])


class Cut:
    """A source cut behind a line: the terms with lesser numbers than many are available."""

    def __init__(self, source, line):
        self._rows = source.worked().rows
        self._many = source.worked().counts[line]
        self._told = told_terms(source)
        # From each term that ways come to by none or terms that are not available, to the one
        # that it is come to from, or None of a told one.
        self._from = {}
        self._go_down()

    def _go_down(self):
        self._from = {number: None for number in self._told}
        queue = list(self._from)
        at = 0
        while at < len(queue):
            number = queue[at]
            at += 1
            parts = parts_of(self._rows[number]) if number >= self._many else ()
            for part in parts:
                if part not in self._from:
                    self._from[part] = number
                    queue.append(part)

    def _entries(self):
        """The available terms, ascending, that ways can come to first."""
        return sorted([number for number in self._from if number < self._many])

    def way_down_to(self, entry):
        way = [entry]
        while self._from[way[-1]] is not None:
            way.append(self._from[way[-1]])
        return way[::-1]

    def ways_through(self):
        """Ways through the available terms, from the first ones to the reads."""
        steps = {number: parts_of(self._rows[number]) for number in range(self._many)}
        ends = {number: True for number in range(self._many) if is_read(self._rows[number])}
        return Ways(steps, self._entries(), ends)

    def is_barred_by(self, lot):
        """Whether no way leads past a lot of terms down to an available read."""
        queue = [number for number in self._entries() if number not in lot]
        come = {number: True for number in queue}
        at = 0
        while at < len(queue):
            number = queue[at]
            at += 1
            if is_read(self._rows[number]):
                return False
            for part in parts_of(self._rows[number]):
                if part not in lot and part not in come:
                    come[part] = True
                    queue.append(part)
        return True
