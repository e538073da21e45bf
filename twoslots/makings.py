"""The places where a source's operations stand, and which of them are too many."""

from twoslots.needed import needed_terms
from twoslots.sources import need_source


def makings(source):
    need_source(source)
    needed = {number: True for number in needed_terms(source)}
    made = {}
    rows = []
    for line, first, last, expr, number in source.worked().met:
        if isinstance(expr, str):
            continue
        if number in made:
            kind = "double"
        else:
            kind = "first" if number in needed else "idle"
        made[number] = True
        rows.append((line, first, last, number, kind))
    return rows
