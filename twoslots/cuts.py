"""Programs cut in two behind an hour."""

from twoslots.errors import NoHour
from twoslots.names import is_number_below
from twoslots.programs import Program
from twoslots.worked import parts_of
from twoslots.workedprograms import need_sound


def ahead_part(program, hour):
    pairs = alive_cells(program, hour)
    return Program(program.reads(), program.hours()[:hour], pairs)


def rest_part(program, hour):
    pairs = alive_cells(program, hour)
    return Program(pairs, program.hours()[hour:], program.tells())


def alive_cells(program, hour):
    """The cells that are alive behind an hour, ascending, each with the name by which it is handed on."""
    worked = need_sound(program)
    if not is_number_below(hour, len(worked.states)):
        raise NoHour(hour)
    wanted = {value: True for _, value in worked.told}
    for values in worked.made[hour:]:
        for value in values:
            for part in parts_of(worked.rows[value]):
                wanted[part] = True
    held = worked.states[hour]
    return [(f"c{cell}", cell) for cell in sorted(held) if held[cell] in wanted]
