"""Programs judged against a source."""

from twoslots.hoping import lost_hours
from twoslots.sources import need_source
from twoslots.workedprograms import need_sound, told_by_numbers


def is_same(source, program):
    return first_wrong_pair(source, program) is None


def judged(source, program):
    index = first_wrong_pair(source, program)
    if index is not None:
        return ("pair", index)
    lost = lost_hours(source, program)
    return ("hour", lost[0][0]) if lost else ("best",)


def first_wrong_pair(source, program):
    """The first index at which a sound program tells another pair than a source, or just one of both tells."""
    need_source(source)
    told = told_by_numbers(source, need_sound(program))
    return first_unlike(source.worked().told, told)


def first_unlike(ones, others):
    """The first index at which lists are unlike, or just one has an item; None if there is none."""
    for index in range(max(len(ones), len(others))):
        if ones[index:index + 1] != others[index:index + 1]:
            return index
    return None
