"""Programs for a machine of cells."""

from twoslots.errors import BadHours, BadProgram, BadReads, BadTells
from twoslots.names import is_cell, is_list, is_name

# How many instructions are done in an hour at most.
SLOTS = 2


class Program:
    """What is read into cells, what is made in each hour, and what is told; lists of tuples."""

    def __init__(self, reads, hours, tells):
        if not is_list(reads):
            raise BadReads(0)
        taken = {}
        for index, thing in enumerate(reads):
            if not is_named_cell(thing) or thing[0] in taken or thing[1] in taken:
                raise BadReads(index)
            taken[thing[0]] = True
            taken[thing[1]] = True
        if not is_list(hours):
            raise BadHours(0)
        for index, thing in enumerate(hours):
            if not is_hour(thing):
                raise BadHours(index)
        if not is_list(tells):
            raise BadTells(0)
        told = {}
        for index, thing in enumerate(tells):
            if not is_named_cell(thing) or thing[0] in told:
                raise BadTells(index)
            told[thing[0]] = True
        self._reads = [tuple(pair) for pair in reads]
        self._hours = [copied_hour(hour) for hour in hours]
        self._tells = [tuple(pair) for pair in tells]

    def reads(self):
        return list(self._reads)

    def hours(self):
        return [list(hour) for hour in self._hours]

    def tells(self):
        return list(self._tells)

    def __eq__(self, other):
        return (isinstance(other, Program) and self._reads == other._reads
                and self._hours == other._hours and self._tells == other._tells)


def is_named_cell(thing):
    return is_list(thing) and len(thing) == 2 and is_name(thing[0]) and is_cell(thing[1])


def is_instruction(thing):
    if not is_list(thing) or len(thing) != 3:
        return False
    if not is_cell(thing[0]) or not is_name(thing[1]) or not is_list(thing[2]):
        return False
    return all([is_cell(cell) for cell in thing[2]])


def is_hour(thing):
    if not is_list(thing) or len(thing) > SLOTS:
        return False
    return all([is_instruction(part) for part in thing])


def copied_hour(hour):
    return [(cell, operation, tuple(cells)) for cell, operation, cells in hour]


def need_program(program):
    if not isinstance(program, Program):
        raise BadProgram(program)
