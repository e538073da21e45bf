"""[26]: makings."""

import unittest

from twoslots.errors import BadSource
from twoslots.makings import makings
from twoslots.needed import fewest_makings, needed_terms
from twoslots.places import places
from twoslots.programs import Program
from twoslots.sources import Source
from twoslots.sourcetexts import read_source
from twoslots.terms import places_of

from tests.samples import OBJECTS, T_TEXT, random_sources, source_of, term_list, terms_within, written


class Makings(unittest.TestCase):
    def test_the_example(self):
        self.assertEqual(makings(read_source(T_TEXT)), [
            (3, 5, 11, 2, "first"), (4, 10, 16, 2, "double"), (4, 5, 17, 3, "first"), (5, 5, 11, 4, "first")])

    def test_idle_ones_and_doubles_of_them(self):
        source = source_of("read a / x = f(g(a), g(a)) / y = h(g(a)) / w = h(g(a)) / tell y / y = k()")
        self.assertEqual(makings(source), [
            (2, 7, 10, 1, "first"), (2, 13, 16, 1, "double"), (2, 5, 17, 2, "idle"),
            (3, 7, 10, 1, "double"), (3, 5, 11, 3, "first"), (4, 7, 10, 1, "double"), (4, 5, 11, 3, "double"),
            (6, 5, 7, 4, "idle")])

    def test_operations_within_one_another(self):
        source = source_of("read a / x = f(g(h(a), k()), h(a)) / tell x")
        self.assertEqual(makings(source), [
            (2, 9, 12, 1, "first"), (2, 15, 17, 2, "first"), (2, 7, 18, 3, "first"), (2, 21, 24, 1, "double"),
            (2, 5, 25, 4, "first")])

    def test_none(self):
        self.assertEqual(makings(Source([])), [])
        self.assertEqual(makings(source_of("read a / x = a / tell x")), [])

    def test_random_sources(self):
        for source in random_sources(111, 150, lines=12):
            rows = makings(source)
            terms = term_list(source)
            needed = set()
            for _, term in written(source)[2]:
                needed |= terms_within(term)
            worked = [term for _, term in written(source)[0] if term[0] != "read"]
            self.assertEqual([terms[row[3]] for row in rows], worked)
            for at, row in enumerate(rows):
                kind = "first" if worked[at] in needed else "idle"
                self.assertEqual(row[4], "double" if worked[at] in worked[:at] else kind)
                self.assertIn(row[:3], places_of(source, row[3]))
            made = [place[:3] for place in places(source) if not isinstance(place[3], str)]
            self.assertEqual(sorted(row[:3] for row in rows), made)
            firsts = [row[3] for row in rows if row[4] == "first"]
            self.assertEqual(sorted(firsts), needed_terms(source))
            self.assertEqual(len(firsts), fewest_makings(source))

    def test_no_source(self):
        for thing in OBJECTS + [Program([], [], [])]:
            with self.assertRaises(BadSource) as caught:
                makings(thing)
            self.assertIs(caught.exception.thing, thing)


if __name__ == "__main__":
    unittest.main()
