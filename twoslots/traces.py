"""From what a program makes back to the source, and from the source to the program."""

from twoslots.errors import NoSpot
from twoslots.places import met_at
from twoslots.sources import need_source
from twoslots.terms import places_of
from twoslots.workedprograms import need_sound, numbers_by


def places_made(source, program, hour, slot):
    need_source(source)
    worked = need_sound(program)
    value = worked.value_at(hour, slot)
    if value is None:
        raise NoSpot(hour, slot)
    number = numbers_by(source, worked)[value]
    return places_of(source, number) if number < len(source.worked().rows) else []


def made_at(source, program, line, sign):
    need_source(source)
    worked = need_sound(program)
    met = met_at(source.worked(), line, sign)
    if met is None:
        return None
    numbers = numbers_by(source, worked)
    return [spot for value, spot in enumerate(worked.spots) if spot is not None and numbers[value] == met[4]]
