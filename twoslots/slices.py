"""What of a program its tells hang on, and programs without some of their instructions."""

from twoslots.errors import BadSpots, NoTold
from twoslots.names import is_list
from twoslots.programs import Program
from twoslots.worked import marks_under
from twoslots.workedprograms import need_sound


def wanted_for(program, name):
    worked = need_sound(program)
    values = [value for told, value in worked.told if told == name]
    if not values:
        raise NoTold(name)
    marks = marks_under(worked.rows, values, {})
    return [spot for value, spot in enumerate(worked.spots) if marks[value] and spot is not None]


def idle(program):
    worked = need_sound(program)
    marks = marks_under(worked.rows, [value for _, value in worked.told], {})
    return [spot for value, spot in enumerate(worked.spots) if not marks[value] and spot is not None]


def struck(program, spots):
    worked = need_sound(program)
    gone = values_at(worked, spots)
    hours = []
    for at, hour in enumerate(program.hours()):
        hours.append([hour[slot] for slot, value in enumerate(worked.made[at]) if value not in gone])
    return Program(program.reads(), hours, program.tells())


def values_at(worked, spots):
    """The values, as a dict, that are made at some unlike spots, once they are such."""
    if not is_list(spots):
        raise BadSpots(0)
    found = {}
    for index, thing in enumerate(spots):
        value = worked.value_at(thing[0], thing[1]) if is_list(thing) and len(thing) == 2 else None
        if value is None or value in found:
            raise BadSpots(index)
        found[value] = True
    return found
