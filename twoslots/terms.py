"""The terms of a source."""

from twoslots.errors import BadNumber
from twoslots.names import is_number_below
from twoslots.sources import need_source
from twoslots.worked import is_read, parts_of, row_told


def need_number(source, number):
    if not is_number_below(number, len(source.worked().rows)):
        raise BadNumber(number)


def term_rows(source):
    need_source(source)
    return [row_told(row) for row in source.worked().rows]


def told_numbers(source):
    need_source(source)
    return list(source.worked().told)


def written_out(source, number):
    need_source(source)
    need_number(source, number)
    many = []
    for row in source.worked().rows[:number + 1]:
        many.append(0 if is_read(row) else 1 + sum([many[part] for part in parts_of(row)]))
    return many[number]


def places_of(source, number):
    need_source(source)
    need_number(source, number)
    met = [row[:3] for row in source.worked().met if row[4] == number]
    return sorted(met)
