"""How many cells a program wants, and the program with no more."""

from twoslots.cells import first_crowded, most_waiting
from twoslots.namings import cells_for
from twoslots.programs import Program
from twoslots.worked import parts_of
from twoslots.workedprograms import need_sound


def lives_in(worked):
    """From each value of a program, ascending, to the hour in which it is made and its last one."""
    made = [0 for _ in worked.rows]
    last = [1 for _ in worked.rows]
    for at, values in enumerate(worked.made):
        for value in values:
            made[value] = at + 1
            last[value] = at + 2
            for part in parts_of(worked.rows[value]):
                last[part] = at + 1
    for _, value in worked.told:
        last[value] = len(worked.made) + 1
    return {value: (hour, last[value]) for value, hour in enumerate(made)}


def cells_wanted(program):
    worked = need_sound(program)
    return most_waiting(lives_in(worked), len(worked.made))


def crowded_in(program):
    worked = need_sound(program)
    return first_crowded(lives_in(worked), len(worked.made))


def with_fewer_cells(program):
    worked = need_sound(program)
    cells = cells_for(lives_in(worked))
    reads = [(name, cells[value]) for value, (name, _) in enumerate(program.reads())]
    hours = [instructions_of(worked.rows, cells, values) for values in worked.made]
    return Program(reads, hours, [(name, cells[value]) for name, value in worked.told])


def instructions_of(rows, cells, values):
    """The instructions by which some values are made, where cells are from values to their cells."""
    hour = []
    for value in values:
        operation, parts = rows[value]
        hour.append((cells[value], operation, tuple([cells[part] for part in parts])))
    return hour
