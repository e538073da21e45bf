"""Programs run by boxes, at once or hour by hour."""

from twoslots.boxes import Tables, copied_box, need_box, values_of
from twoslots.errors import NoCell, NoHour, NotSound
from twoslots.names import is_cell
from twoslots.programs import need_program
from twoslots.workedprograms import hour_fault, need_sound, tells_fault


class Run:
    """A program that stands behind one of its hours.

    For the begin and each hour that is done there is a dict from the cells that are not empty to
    the pairs of their value and the spot that wrote it, None for a start; no such dict is changed.
    """

    def __init__(self, program, box):
        need_program(program)
        need_box(box)
        self._program = program
        self._box = copied_box(box)
        self._tables = Tables(self._box)
        self._states = [{cell: (self._tables.start(name), None) for name, cell in program.reads()}]

    def step(self):
        hours = self._program.hours()
        number = len(self._states)
        if number > len(hours):
            raise NoHour(number)
        hour = hours[number - 1]
        held = self._states[-1]
        fault = hour_fault(number, hour, held)
        if fault is not None:
            raise NotSound(fault)
        behind = dict(held)
        written = []
        for at, (cell, operation, cells) in enumerate(hour):
            value = self._tables.result(operation, [held[part][0] for part in cells])
            behind[cell] = (value, (number, at + 1))
            written.append((cell, value))
        self._states.append(behind)
        return sorted(written)

    def hour(self):
        return len(self._states) - 1

    def cells(self):
        held = self._states[-1]
        return {cell: held[cell][0] for cell in sorted(held)}

    def told(self):
        many = len(self._program.hours())
        if self.hour() < many:
            return None
        held = self._states[-1]
        tells = self._program.tells()
        fault = tells_fault(many + 1, tells, held)
        if fault is not None:
            raise NotSound(fault)
        return [(name, held[cell][0]) for name, cell in tells]

    def made_by(self, cell):
        if not is_cell(cell) or cell not in self._states[-1]:
            raise NoCell(cell)
        return self._states[-1][cell][1]

    def back(self):
        if self.hour() == 0:
            return None
        self._states.pop()
        return len(self._states)

    def copy(self):
        other = Run(self._program, self._box)
        other._states = list(self._states)
        return other

    def __eq__(self, other):
        return (isinstance(other, Run) and self._program == other._program and self._box == other._box
                and len(self._states) == len(other._states))


def run(program, box):
    worked = need_sound(program)
    need_box(box)
    values = values_of(worked.rows, box)
    return [(name, values[value]) for name, value in worked.told]
