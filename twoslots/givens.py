"""What holds hours up: lines whose values could be given, and tells that force hours."""

from itertools import combinations

from twoslots.chains import best_chain
from twoslots.errors import NoLine, NoTold
from twoslots.names import is_name, is_number_below
from twoslots.needed import needed_terms, order_among, told_terms
from twoslots.plans import fewest_hours, need_hours
from twoslots.programs import SLOTS
from twoslots.sources import need_source
from twoslots.worked import is_read, marks_under, parts_of


class Wants:
    """How few hours a source wants if just some terms are told, and some are held beside the reads."""

    def __init__(self, source):
        self._source = source
        self._rows = source.worked().rows
        self._reads = {number: True for number, row in enumerate(self._rows) if is_read(row)}
        # Many lots of terms leave the same to be made.
        self._hours = {}

    def order(self, told, given):
        return order_among(self._source, self._wanted(told, given))

    def hours(self, told, given):
        wanted = self._wanted(told, given)
        key = tuple(wanted)
        if key not in self._hours:
            self._hours[key] = fewest_hours(order_among(self._source, wanted))
        return self._hours[key]

    def are_enough(self, told, given, hours):
        """Whether so many hours are enough; what is plain without a plan is told without one."""
        wanted = self._wanted(told, given)
        if len(wanted) > SLOTS * hours or self._depth(wanted) > hours:
            return False
        return len(wanted) <= hours or self.hours(told, given) <= hours

    def _wanted(self, told, given):
        held = dict(self._reads)
        for number in given:
            held[number] = True
        marks = marks_under(self._rows, told, held)
        return [number for number, mark in enumerate(marks) if mark]

    def _depth(self, wanted):
        """How many wanted terms stand one within another at most."""
        depths = {}
        for number in wanted:
            depths[number] = 1 + max([depths.get(part, 0) for part in parts_of(self._rows[number])], default=0)
        return max(list(depths.values()), default=0)


def own_hours(source):
    return Wants(source).hours(told_terms(source), [])


def need_giving_line(source, line):
    lines = source.lines()
    if not is_number_below(line, len(lines) + 1) or line == 0 or lines[line - 1][0] != "give":
        raise NoLine(line)


def term_of_line(source, line):
    """The number of the term of the value of a line that gives."""
    worked = source.worked()
    # Of a line the whole expr is met last.
    return worked.met[worked.met_counts[line] - 1][4]


def hours_given(source, line):
    need_source(source)
    need_giving_line(source, line)
    return Wants(source).hours(told_terms(source), [term_of_line(source, line)])


def given_chain(source, line):
    if hours_given(source, line) < own_hours(source):
        return None
    return best_chain(Wants(source).order(told_terms(source), [term_of_line(source, line)]))


def holding_lines(source):
    need_source(source)
    wants = Wants(source)
    told = told_terms(source)
    found = []
    for line in giving_lines(source):
        saved = wants.hours(told, []) - wants.hours(told, [term_of_line(source, line)])
        if saved > 0:
            found.append((line, saved))
    return found


def giving_lines(source):
    return [at + 1 for at, line in enumerate(source.lines()) if line[0] == "give"]


def fewest_given(source, hours):
    need_source(source)
    need_hours(hours)
    wants = Wants(source)
    told = told_terms(source)
    lines = lines_that_serve(source)
    for many in range(len(lines) + 1):
        for some in combinations(lines, many):
            if wants.are_enough(told, [term_of_line(source, line) for line in some], hours):
                return list(some)
    return None


def lines_that_serve(source):
    """The lines with a needed term that no line ahead has: a first shortest list has no other ones."""
    left = {number: True for number in needed_terms(source)}
    found = []
    for line in giving_lines(source):
        number = term_of_line(source, line)
        if number in left:
            del left[number]
            found.append(line)
    return found


def hours_without(source, name):
    need_source(source)
    if not is_name(name) or name not in source.tells():
        raise NoTold(name)
    return Wants(source).hours([number for told, number in source.worked().told if told != name], [])


def forcing(source):
    need_source(source)
    wants = Wants(source)
    pairs = source.worked().told
    hours = own_hours(source)
    for many in range(len(pairs) + 1):
        for some in combinations(pairs, many):
            if hours == 0 or not wants.are_enough([number for _, number in some], [], hours - 1):
                return [name for name, _ in some]
    return None
