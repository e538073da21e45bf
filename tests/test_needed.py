"""[23], [24], [25]: what is needed, from some on, why, and why not."""

import itertools
import unittest

from twoslots.errors import BadHeld, BadNumber, BadSource
from twoslots.needed import fewest_makings, needed_terms, order_from, order_of, wanted_terms, why_idle, why_needed
from twoslots.orders import Order
from twoslots.programs import Program
from twoslots.sources import Source
from twoslots.sourcetexts import read_source
from twoslots.terms import term_rows, told_numbers

from tests.samples import OBJECTS, T_TEXT, function_of_somebody, random_sources, source_of, term_list, term_parts
from tests.samples import terms_within, written


def needed_by_written(source):
    """The needed terms as nested tuples, by their numbers."""
    wanted = set()
    for _, term in written(source)[2]:
        wanted |= terms_within(term)
    return [term for term in term_list(source) if term in wanted and term[0] != "read"]


def wanted_by_written(source, held):
    """The wanted numbers as [24] tells them, None if a read is lost."""
    terms = term_list(source)
    there = {terms[number] for number in held}
    wanted = set()

    def want(term):
        if term not in there and term not in wanted:
            wanted.add(term)
            for part in term_parts(term):
                want(part)

    for _, term in written(source)[2]:
        want(term)
    if any(term[0] == "read" for term in wanted):
        return None
    return [number for number, term in enumerate(terms) if term in wanted]


def order_by_written(source, numbers):
    """One ahead of another if from the latter parts lead down to the former through these alone."""
    terms = term_list(source)
    mine = [terms[number] for number in numbers]

    def below(term):
        found = set()
        for part in term_parts(term):
            if part in mine:
                found |= {part} | below(part)
        return found

    pairs = [(at, to) for to, term in enumerate(mine) for at, other in enumerate(mine) if other in below(term)]
    return Order(len(mine), pairs)


def paths_down(term, last):
    found = [[]] if term == last else []
    for at, part in enumerate(term_parts(term)):
        found.extend([at] + path for path in paths_down(part, last))
    return found


class Needed(unittest.TestCase):
    def test_the_example(self):
        source = read_source(T_TEXT)
        self.assertEqual(needed_terms(source), [2, 3, 4])
        self.assertEqual(fewest_makings(source), 3)
        self.assertEqual(order_of(source), Order(3, [(0, 1), (1, 2)]))
        self.assertEqual(order_of(source).ahead(2), [0, 1])

    def test_idle_lines(self):
        source = source_of("read a / w = k(a) / x = f(g(a), h()) / w = k(w) / x = m(a, x) / tell x / y = f(x)")
        self.assertEqual(term_rows(source)[1], ("k", [0]))
        self.assertEqual(needed_terms(source), [2, 3, 4, 6])
        self.assertEqual(order_of(source), Order(4, [(0, 2), (1, 2), (2, 3)]))

    def test_terms_told_by_two_names(self):
        source = source_of("read a / x = f(a) / y = f(a) / tell x / tell y / tell a")
        self.assertEqual(needed_terms(source), [1])

    def test_told_reads_and_no_tells(self):
        self.assertEqual(needed_terms(source_of("read a / x = f(a) / tell a")), [])
        self.assertEqual(needed_terms(source_of("read a / x = f(a)")), [])
        self.assertEqual(fewest_makings(Source([])), 0)
        self.assertEqual(order_of(Source([])), Order(0, []))

    def test_random_sources(self):
        for source in random_sources(101, 150, lines=12):
            terms = term_list(source)
            needed = needed_terms(source)
            self.assertEqual([terms[number] for number in needed], needed_by_written(source))
            self.assertEqual(needed, sorted(needed))
            self.assertEqual(fewest_makings(source), len(needed))
            self.assertEqual(order_of(source), order_by_written(source, needed))
            reads = [number for number, term in enumerate(terms) if term[0] == "read"]
            self.assertEqual(wanted_terms(source, reads), needed)
            self.assertEqual(order_from(source, reads), order_of(source))

    def test_no_source(self):
        asks = [needed_terms, fewest_makings, order_of, lambda source: wanted_terms(source, None),
                lambda source: order_from(source, None), lambda source: why_needed(source, None),
                lambda source: why_idle(source, None)]
        for thing in OBJECTS + [Program([], [], [])]:
            for ask in asks:
                with self.assertRaises(BadSource) as caught:
                    ask(thing)
                self.assertIs(caught.exception.thing, thing)


class FromSomeOn(unittest.TestCase):
    def test_the_example(self):
        source = read_source(T_TEXT)
        self.assertEqual(wanted_terms(source, [0, 1, 3]), [2, 4])
        self.assertIsNone(wanted_terms(source, [3]))
        self.assertIsNone(order_from(source, [3]))
        self.assertEqual(order_from(source, [0, 1, 3]), Order(2, [(0, 1)]))

    def test_through_wanted_ones_alone(self):
        source = source_of("read a / x = f(a) / y = g(x) / z = h(y) / tell z / tell x")
        self.assertEqual(wanted_terms(source, [0, 2]), [1, 3])
        self.assertEqual(order_from(source, [2, 0]), Order(2, []))
        self.assertEqual(order_from(source, (0,)), Order(3, [(0, 1), (1, 2)]))
        self.assertEqual(order_from(source, [1, 2, 3]), Order(0, []))

    def test_lost_reads(self):
        source = source_of("read a / read b / x = f(a) / tell x / tell b")
        self.assertIsNone(wanted_terms(source, []))
        self.assertIsNone(wanted_terms(source, [0]))
        self.assertIsNone(wanted_terms(source, [2]))
        self.assertEqual(wanted_terms(source, [2, 1]), [])
        self.assertEqual(wanted_terms(source, [1, 0]), [2])
        self.assertEqual(wanted_terms(source_of("read a"), []), [])

    def test_all_held_lists(self):
        for source in random_sources(102, 60, lines=8):
            numbers = range(len(term_list(source)))
            for many in range(4):
                for held in itertools.combinations(numbers, many):
                    wanted = wanted_by_written(source, held)
                    self.assertEqual(wanted_terms(source, list(held)[::-1]), wanted)
                    order = None if wanted is None else order_by_written(source, wanted)
                    self.assertEqual(order_from(source, held), order)

    def test_bad_held(self):
        source = read_source(T_TEXT)
        for ask in (wanted_terms, order_from):
            for held in [0, None, "", "0", {}, {0: 1}, source, True, function_of_somebody]:
                with self.assertRaises(BadHeld) as caught:
                    ask(source, held)
                self.assertEqual(caught.exception.index, 0)
            for thing in [5, -1, True, False, None, "1", [1], (1,), 10 ** 9, 2, 0]:
                with self.assertRaises(BadHeld) as caught:
                    ask(source, [0, 2, thing, None])
                self.assertEqual(caught.exception.index, 2, thing)
            with self.assertRaises(BadHeld) as caught:
                ask(Source([]), [0])
            self.assertEqual(caught.exception.index, 0)

    def test_nothing_is_changed(self):
        held = [3, 1, 0]
        wanted_terms(read_source(T_TEXT), held).append(7)
        self.assertEqual(held, [3, 1, 0])
        self.assertEqual(wanted_terms(read_source(T_TEXT), held), [2, 4])


class WhyAndWhyNot(unittest.TestCase):
    def test_the_example(self):
        source = read_source(T_TEXT)
        self.assertEqual(why_needed(source, 1), (0, [0, 0, 1]))
        self.assertEqual(why_needed(source, 2), (0, [0, 0]))
        self.assertEqual(why_needed(source, 4), (0, []))
        more = read_source(T_TEXT.replace("z = h(y, x)", "w = k(y)\nz = h(y, x)"))
        self.assertEqual(term_rows(more)[4], ("k", [3]))
        self.assertEqual(why_idle(more, 4), [4])
        self.assertIsNone(why_needed(more, 4))

    def test_idle_reads_and_what_hangs_on_them(self):
        source = source_of("read a / read b / x = f(b) / y = g(a, x) / w = h(f(a)) / tell w")
        self.assertEqual(why_idle(source, 1), [1, 2, 3])
        self.assertEqual(why_idle(source, 2), [2, 3])
        self.assertIsNone(why_idle(source, 0))
        self.assertEqual(why_needed(source, 0), (0, [0, 0]))

    def test_the_first_pair(self):
        source = source_of("read a / x = f(a) / y = g(h(x), x) / tell y / tell x")
        self.assertEqual(why_needed(source, 1), (0, [0, 0]))
        source = source_of("read a / x = f(a) / tell x / y = g(h(a), x) / tell y")
        self.assertEqual(why_needed(source, 1), (0, []))
        self.assertEqual(why_needed(source, 2), (1, [0]))

    def test_random_sources(self):
        for source in random_sources(103, 120, lines=10):
            terms = term_list(source)
            tells = [term for _, term in written(source)[2]]
            for number, term in enumerate(terms):
                pairs = [(place, path) for place, told in enumerate(tells) for path in paths_down(told, term)]
                self.assertEqual(why_needed(source, number), min(pairs) if pairs else None)
                above = [at for at, other in enumerate(terms) if term in terms_within(other)]
                self.assertEqual(why_idle(source, number), None if pairs else above)
                self.assertEqual((why_needed(source, number) is None) + (why_idle(source, number) is None), 1)

    def test_bad_number(self):
        source = read_source(T_TEXT)
        for thing in [5, -1, True, False, None, "0", [0], (0,), {}, source, 10 ** 9]:
            for ask in (why_needed, why_idle):
                with self.assertRaises(BadNumber) as caught:
                    ask(source, thing)
                self.assertIs(caught.exception.thing, thing)

    def test_written_out_terms_that_double(self):
        lines = [("read", "a"), ("read", "b"), ("give", "x", ("f", "b", "a"))] + [("give", "x", ("f", "x", "x"))] * 99
        source = Source(lines + [("tell", "x")])
        self.assertEqual(why_needed(source, 0), (0, [0] * 99 + [1]))
        self.assertEqual(len(needed_terms(source)), len(told_numbers(source)) + 99)


if __name__ == "__main__":
    unittest.main()
