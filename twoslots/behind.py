"""Sources put behind one another, and whether two can not be told apart then."""

from twoslots.plaintexts import source_of_told
from twoslots.sources import Source, need_source
from twoslots.worked import TermBook, is_read, numbers_in, renumbered


def put_behind(one, other):
    need_source(one)
    need_source(other)
    book = TermBook()
    given = given_in(book, one)
    numbers = []
    for row in other.worked().rows:
        if is_read(row) and row[1] in given:
            numbers.append(given[row[1]])
        else:
            numbers.append(book.number(renumbered(row, numbers)))
    told = {name: numbers[number] for name, number in other.worked().told}
    for name, number in given.items():
        told.setdefault(name, number)
    return source_of_told(book.rows, list(told.items()))


def given_in(book, source):
    """From each name that a source tells to the number of its term in a book of terms."""
    numbers = numbers_in(book, source.worked().rows)
    return {name: numbers[number] for name, number in source.worked().told}


def alike_everywhere(one, other):
    return parting_source(one, other) is None


def parting_source(one, other):
    need_source(one)
    need_source(other)
    book = TermBook()
    mine = given_in(book, one)
    others = given_in(book, other)
    for name in sorted(set(list(mine) + list(others))):
        itself = book.number(("read", name))
        if mine.get(name, itself) != others.get(name, itself):
            return Source([("read", name), ("tell", name)])
    return None
