"""What a source is compiled to: a program, its plan, and the chain that shows that no program has fewer hours."""

from twoslots.cells import Values
from twoslots.chains import best_chain
from twoslots.namings import cells_for
from twoslots.plans import best_plan
from twoslots.programs import Program
from twoslots.recells import instructions_of
from twoslots.sources import need_source
from twoslots.worked import is_read


class Compiled:
    """What a source is compiled to."""

    def __init__(self, source):
        values = Values(source)
        self._source = source
        self._plan = best_plan(values.order)
        self._chain = best_chain(values.order)
        self._program = program_by_plan(source, values, self._plan)

    def source(self):
        return self._source

    def program(self):
        return self._program

    def plan(self):
        return [list(hour) for hour in self._plan]

    def chain(self):
        return [list(block) for block in self._chain]

    def hours(self):
        return len(self._plan)

    def __eq__(self, other):
        return isinstance(other, Compiled) and self._source == other._source


def compiled(source):
    need_source(source)
    return Compiled(source)


def program_by_plan(source, values, plan):
    """The program that makes the values of a source by a plan, on as few cells as the plan wants."""
    rows = source.worked().rows
    cells = cells_for(values.lives(plan))
    cell_of = {rows[number][1]: cell for number, cell in cells.items() if is_read(rows[number])}
    hours = [instructions_of(rows, cells, [values.needed[thing] for thing in hour]) for hour in plan]
    reads = [(name, cell_of[name]) for name in source.reads()]
    return Program(reads, hours, [(name, cells[number]) for name, number in source.worked().told])
