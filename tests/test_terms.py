"""[15], [16]: the terms of sources, and [21] so far as it speaks of them."""

import unittest

from twoslots.errors import BadNumber, BadSource
from twoslots.places import places
from twoslots.programs import Program
from twoslots.sources import Source
from twoslots.sourcetexts import read_source
from twoslots.terms import places_of, term_rows, told_numbers, written_out

from tests.samples import OBJECTS, T_TEXT, is_read_term, random_sources, source_of, term_list, term_parts, written


def nested(rows):
    """The terms of rows as nested tuples."""
    terms = []
    for row in rows:
        terms.append(row if row[0] == "read" else (row[0],) + tuple(terms[part] for part in row[1]))
    return terms


def operations_in(term):
    return 0 if is_read_term(term) else 1 + sum(operations_in(part) for part in term_parts(term))


class TermRows(unittest.TestCase):
    def test_the_example(self):
        source = read_source(T_TEXT)
        self.assertEqual(term_rows(source), [
            ("read", "a"), ("read", "b"), ("f", [0, 1]), ("g", [2, 2]), ("h", [3, 2])])
        self.assertEqual(told_numbers(source), [("z", 4), ("x", 2)])

    def test_no_terms(self):
        self.assertEqual(term_rows(Source([])), [])
        self.assertEqual(told_numbers(Source([])), [])

    def test_unused_reads_have_one(self):
        source = source_of("read b / x = f() / read a / tell x")
        self.assertEqual(term_rows(source), [("read", "b"), ("f", []), ("read", "a")])
        self.assertEqual(told_numbers(source), [("x", 1)])

    def test_parts_ahead_left_to_right(self):
        source = source_of("read a / x = f(g(a, k()), g(k(), a), h(g(a, k())))")
        self.assertEqual(term_rows(source), [
            ("read", "a"), ("k", []), ("g", [0, 1]), ("g", [1, 0]), ("h", [2]), ("f", [2, 3, 4])])

    def test_a_name_for_a_name_makes_none(self):
        source = source_of("read a / x = a / y = x / tell y / tell a / x = f(y) / y = x / tell x")
        self.assertEqual(term_rows(source), [("read", "a"), ("f", [0])])
        self.assertEqual(told_numbers(source), [("y", 0), ("a", 0), ("x", 1)])

    def test_a_name_given_anew(self):
        source = source_of("read a / tell a / a = f(a) / a = f(a) / b = a / a = g(a) / tell b")
        self.assertEqual(term_rows(source), [("read", "a"), ("f", [0]), ("f", [1]), ("g", [2])])
        self.assertEqual(told_numbers(source), [("a", 0), ("b", 2)])

    def test_unlike_numbers_of_parts(self):
        source = source_of("read a / x = f(a) / y = f(a, a) / z = f() / w = f(a)")
        self.assertEqual(term_rows(source), [("read", "a"), ("f", [0]), ("f", [0, 0]), ("f", [])])

    def test_an_operation_is_not_a_name(self):
        source = source_of("read f / x = f() / y = f(f) / tell y")
        self.assertEqual(term_rows(source), [("read", "f"), ("f", []), ("f", [0])])

    def test_random_sources(self):
        for source in random_sources(61, 200, lines=12):
            rows = term_rows(source)
            self.assertEqual(nested(rows), term_list(source))
            self.assertTrue(all(part < at for at, row in enumerate(rows) if row[0] != "read" for part in row[1]))
            told = told_numbers(source)
            self.assertEqual([(name, nested(rows)[number]) for name, number in told], written(source)[2])
            self.assertEqual([name for name, _ in told], source.tells())
            for row in rows:
                self.assertIsInstance(row, tuple)
                self.assertIsInstance(row[1], str if row[0] == "read" else list)

    def test_told_lists_are_new(self):
        source = read_source(T_TEXT)
        term_rows(source)[2][1].clear()
        term_rows(source).pop()
        told_numbers(source).pop()
        self.assertEqual(term_rows(source)[2], ("f", [0, 1]))
        self.assertEqual(len(term_rows(source)), 5)
        self.assertEqual(len(told_numbers(source)), 2)
        rows = term_rows(source_of("x = f(g(), g())"))
        self.assertEqual(rows, [("g", []), ("f", [0, 0])])

    def test_no_source(self):
        for thing in OBJECTS + [Program([], [], [])]:
            for ask in (term_rows, told_numbers, lambda source: written_out(source, None),
                        lambda source: places_of(source, None)):
                with self.assertRaises(BadSource) as caught:
                    ask(thing)
                self.assertIs(caught.exception.thing, thing)


class Numbers(unittest.TestCase):
    def test_written_out_of_the_example(self):
        source = read_source(T_TEXT)
        self.assertEqual([written_out(source, number) for number in range(5)], [0, 0, 1, 3, 5])

    def test_places_of_the_example(self):
        source = read_source(T_TEXT)
        self.assertEqual(places_of(source, 2), [(3, 5, 11), (4, 7, 7), (4, 10, 16), (5, 10, 10)])
        self.assertEqual(places_of(source, 0), [(3, 7, 7), (4, 12, 12)])
        self.assertEqual(places_of(source, 4), [(5, 5, 11)])

    def test_random_sources(self):
        for source in random_sources(62, 100, lines=12):
            terms = term_list(source)
            found = []
            for number, term in enumerate(terms):
                self.assertEqual(written_out(source, number), operations_in(term))
                rows = places_of(source, number)
                self.assertEqual(rows, sorted(rows))
                found.extend((place, number) for place in rows)
            self.assertEqual(sorted(found), sorted((row[:3], terms.index(self.term_at(source, row)))
                                                   for row in places(source)))

    def term_at(self, source, row):
        """The term of a place, worked out by the lines ahead and the expr alone."""
        lines = source.lines()[:row[0] - 1] + [("give", "q", row[3]), ("tell", "q")]
        return written(Source([line for line in lines if line[0] != "tell" or line[1] == "q"]))[2][-1][1]

    def test_names_with_no_expr(self):
        self.assertEqual(places_of(source_of("read a / tell a"), 0), [])

    def test_written_out_doubles(self):
        lines = [("read", "a"), ("give", "x", ("f", "a", "a"))] + [("give", "x", ("f", "x", "x"))] * 99
        source = Source(lines + [("tell", "x")])
        self.assertEqual(len(term_rows(source)), 101)
        self.assertEqual([written_out(source, number) for number in range(101)], [2 ** k - 1 for k in range(101)])
        self.assertEqual(told_numbers(source), [("x", 100)])

    def test_no_numbers(self):
        source = read_source(T_TEXT)
        for thing in [5, 6, -1, 10 ** 9, True, False, None, "0", [0], (0,), {}, {0: 0}, source, len]:
            for ask in (written_out, places_of):
                with self.assertRaises(BadNumber) as caught:
                    ask(source, thing)
                self.assertIs(caught.exception.thing, thing)
        for ask in (written_out, places_of):
            with self.assertRaises(BadNumber):
                ask(Source([]), 0)

    def test_told_lists_are_new(self):
        source = read_source(T_TEXT)
        places_of(source, 2).clear()
        self.assertEqual(len(places_of(source, 2)), 4)


if __name__ == "__main__":
    unittest.main()
