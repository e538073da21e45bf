"""Sources told back from what a teller, or a program, does."""

from twoslots.compiled import Compiled
from twoslots.definitions import Definitions
from twoslots.errors import BadReads, BadTeller, NoText, SlotError
from twoslots.names import is_list, is_name
from twoslots.orders import Order
from twoslots.plaintexts import source_of_terms
from twoslots.programs import Program
from twoslots.running import Run
from twoslots.sessions import Session
from twoslots.sources import Source
from twoslots.worked import TermBook
from twoslots.workedprograms import need_sound


class Value:
    """What stands for a term while a teller is asked: there is one for each term, equal to itself alone."""


class Asking:
    """The terms that a teller makes of reads while it is asked, and their values."""

    def __init__(self, reads):
        self._book = TermBook()
        self._values = []
        self._number_of = {}
        self._starts = {name: self._value(("read", name)) for name in sorted(reads)}

    def rows(self):
        return list(self._book.rows)

    def starts(self):
        return {name: self._starts[name] for name in self._starts}

    def done(self, operation, values):
        """The value of an operation on values."""
        return self._value((operation, tuple([self._number_of[value] for value in values])))

    def number(self, thing):
        """The number of the term of any object that is a value of this asking, None of what is none."""
        return self._number_of.get(thing) if isinstance(thing, Value) else None

    def _value(self, row):
        number = self._book.number(row)
        if number == len(self._values):
            self._values.append(Value())
            self._number_of[self._values[-1]] = number
        return self._values[number]


def source_of_teller(teller, reads):
    need_teller(teller)
    need_reads(reads)
    asking = Asking(reads)

    def work(operation, values):
        return asking.done(operation, values)

    told = told_in(asking, teller(work, asking.starts()))
    return source_of_terms(asking.rows(), sorted(reads), told)


def need_teller(teller):
    if teller is None or isinstance(teller, (int, str, list, tuple, dict)) or is_of_package(teller):
        raise BadTeller(teller)


def is_of_package(thing):
    """Whether a thing is an object of this package."""
    if isinstance(thing, (Source, Program, Order, Run, Compiled)):
        return True
    return isinstance(thing, (Definitions, Session, SlotError, Value))


def need_reads(reads):
    if not is_list(reads):
        raise BadReads(0)
    stood = {}
    for index, thing in enumerate(reads):
        if not is_name(thing) or thing in stood:
            raise BadReads(index)
        stood[thing] = True


def told_in(asking, things):
    """The pairs (name, number) that are told, once they are such."""
    if not is_list(things):
        raise NoText(0)
    told = {}
    for index, thing in enumerate(things):
        if not is_list(thing) or len(thing) != 2 or not is_name(thing[0]) or thing[0] in told:
            raise NoText(index)
        number = asking.number(thing[1])
        if number is None:
            raise NoText(index)
        told[thing[0]] = number
    return list(told.items())


def source_of_program(program):
    worked = need_sound(program)
    book = TermBook()
    numbers = worked.numbers(book)
    told = [(name, numbers[value]) for name, value in worked.told]
    return source_of_terms(book.rows, sorted([name for name, _ in program.reads()]), told)
