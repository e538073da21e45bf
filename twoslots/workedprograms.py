"""What programs work out to: what lies in each cell behind each hour, and what reads what."""

from twoslots.errors import NotSound
from twoslots.names import is_number
from twoslots.programs import need_program
from twoslots.worked import TermBook, numbers_in


class WorkedProgram:
    """What a program works out to, up to its first fault.

    Its values are numbered: each read, in their order, then each making, hour by hour and slot by
    slot. rows has ("read", name) or (operation, tuple of the values that are read) for each, spots
    its spot, None of a read; made has the list of the values that are made in each hour, states
    for the begin and each hour the dict from the cells that are not empty to their values; told are
    the pairs (name, value) of the tells; fault is the first one, None if there is none.
    """

    def __init__(self, program):
        self.rows = [("read", name) for name, _ in program.reads()]
        self.spots = [None for _ in self.rows]
        self.made = []
        self.states = [{cell: value for value, (_, cell) in enumerate(program.reads())}]
        self.told = []
        self._value_at = {}
        self.fault = self._work_all(program.hours(), program.tells())

    def _work_all(self, hours, tells):
        """Works out hours and tells up to the first fault, which is returned."""
        for at, hour in enumerate(hours):
            fault = hour_fault(at + 1, hour, self.states[-1])
            if fault is not None:
                return fault
            self._work(at + 1, hour)
        fault = tells_fault(len(hours) + 1, tells, self.states[-1])
        if fault is None:
            self.told = [(name, self.states[-1][cell]) for name, cell in tells]
        return fault

    def _work(self, number, hour):
        begin = self.states[-1]
        behind = dict(begin)
        made = []
        for at, (cell, operation, cells) in enumerate(hour):
            value = len(self.rows)
            made.append(value)
            behind[cell] = value
            self.rows.append((operation, tuple([begin[part] for part in cells])))
            self.spots.append((number, at + 1))
            self._value_at[(number, at + 1)] = value
        self.made.append(made)
        self.states.append(behind)

    def numbers(self, book):
        """For each value the number that its term has in a book of terms, into which it is put."""
        return numbers_in(book, self.rows)

    def value_at(self, hour, slot):
        """The value that is made at a spot, None if nothing is; any two objects may be asked."""
        if not is_number(hour) or not is_number(slot):
            return None
        return self._value_at.get((hour, slot))


def hour_fault(number, hour, held):
    """The first fault of an hour with this number, None if it has none; held are the cells that are not empty."""
    for at, (cell, _, cells) in enumerate(hour):
        for part in cells:
            if part not in held:
                return (number, at + 1, "empty", part)
        if at > 0 and cell == hour[0][0]:
            return (number, at + 1, "both", cell)
    return None


def tells_fault(number, tells, held):
    """The first fault of the tells, asked as an hour with this number."""
    for at, (_, cell) in enumerate(tells):
        if cell not in held:
            return (number, at + 1, "empty", cell)
    return None


def need_sound(program):
    """What a program works out to, once it is one and is sound."""
    need_program(program)
    worked = WorkedProgram(program)
    if worked.fault is not None:
        raise NotSound(worked.fault)
    return worked


def numbers_by(source, worked):
    """For each value of a program the number of its term in the source, a greater one if it is none there."""
    book = TermBook()
    for row in source.worked().rows:
        book.number(row)
    return worked.numbers(book)


def told_by_numbers(source, worked):
    """The pairs (name, number) that a sound program tells, numbers being as numbers_by tells them."""
    numbers = numbers_by(source, worked)
    return [(name, numbers[value]) for name, value in worked.told]
