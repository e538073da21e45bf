"""[27]: sources cut behind a line."""

import itertools
import random
import unittest

from twoslots.carried import are_ways, carried_terms, carried_ways, fewest_carried, is_carried
from twoslots.errors import BadLine, BadSource
from twoslots.programs import Program
from twoslots.sources import Source
from twoslots.sourcetexts import read_source
from twoslots.terms import term_rows, told_numbers

from tests.samples import OBJECTS, T_TEXT, function_of_somebody, random_sources, source_of


def available_many(source, line):
    """How many terms the first so many lines have; these are the first ones of all."""
    ahead = Source(source.lines()[:line])
    return len(term_rows(ahead))


def all_ways(source, many):
    rows = term_rows(source)

    def down(way):
        row = rows[way[-1]]
        if row[0] == "read":
            return [way] if way[-1] < many else []
        return [longer for part in sorted(set(row[1])) for longer in down(way + [part])]

    return [way for told in sorted({number for _, number in told_numbers(source)}) for way in down([told])]


def barring_lots(ways, many):
    """All lots of available terms that have one of each way, as sets."""
    for size in range(many + 1):
        for lot in itertools.combinations(range(many), size):
            if all(set(lot) & set(way) for way in ways):
                yield lot


def most_apart(ways, many):
    """The most ways no two of which have an available term in common."""
    if not ways:
        return 0
    mine = {number for number in ways[0] if number < many}
    with_it = 1 + most_apart([way for way in ways[1:] if not mine & set(way)], many)
    return max(with_it, most_apart(ways[1:], many)) if with_it < len(ways) else with_it


def woven_source(rng):
    """A source whose ways cross one another, so that ways that were found are often to be changed."""
    known = [f"r{at}" for at in range(rng.randint(2, 5))]
    lines = [("read", name) for name in known]
    for at in range(rng.randint(3, 9)):
        parts = tuple(rng.choice(known[-7:]) for _ in range(rng.randint(1, 3)))
        lines.append(("give", f"x{at}", (rng.choice("fgh"),) + parts))
        known.append(f"x{at}")
    return Source(lines + [("tell", name) for name in rng.sample(known, min(len(known), rng.randint(1, 5)))])


class Carried(unittest.TestCase):
    def test_the_example(self):
        source = read_source(T_TEXT)
        self.assertEqual(fewest_carried(source, 3), 1)
        self.assertEqual(carried_terms(source, 3), [2])
        self.assertEqual(fewest_carried(source, 2), 2)
        self.assertEqual(carried_terms(source, 2), [0, 1])

    def test_line_0(self):
        source = read_source(T_TEXT)
        self.assertEqual((fewest_carried(source, 0), carried_terms(source, 0), carried_ways(source, 0)), (0, [], []))
        self.assertTrue(is_carried(source, 0, []))
        self.assertFalse(is_carried(source, 0, [0]))
        self.assertTrue(are_ways(source, 0, []))
        self.assertFalse(are_ways(source, 0, [[2, 0]]))
        self.assertEqual(carried_ways(Source([]), 0), [])

    def test_facts(self):
        for source in random_sources(121, 60, lines=10):
            count = len(source.lines())
            for line in range(count + 1):
                many = available_many(source, line)
                told = sorted({number for _, number in told_numbers(source)})
                if all(number < many for number in told):
                    self.assertTrue(is_carried(source, line, told))
                self.assertTrue(is_carried(source, line, [n for n in range(many) if term_rows(source)[n][0] == "read"]))
                on_ways = {number for way in all_ways(source, many) for number in way}
                self.assertTrue(set(carried_terms(source, line)) <= on_ways)
            if len(source.tells()) == 1:
                self.assertLessEqual(fewest_carried(source, count), 1)

    def test_against_all_lots(self):
        for source in random_sources(122, 70, lines=9) + random_sources(123, 70, lines=11, depth=1, names="abcdef"):
            for line in range(len(source.lines()) + 1):
                many = available_many(source, line)
                if many > 9:
                    break
                ways = all_ways(source, many)
                lots = list(barring_lots(ways, many))
                least = len(lots[0])
                self.assertEqual(fewest_carried(source, line), least)
                carried = carried_terms(source, line)
                self.assertIn(tuple(carried), lots)
                self.assertEqual(len(carried), least)
                for size in range(min(many, 4) + 1):
                    for lot in itertools.combinations(range(many), size):
                        self.assertEqual(is_carried(source, line, list(lot)[::-1]), lot in lots)
                apart = carried_ways(source, line)
                self.assertEqual(len(apart), least)
                self.assertTrue(are_ways(source, line, apart))
                self.assertTrue(all(way in ways for way in apart))
                if len(ways) <= 12:
                    self.assertEqual(most_apart(ways, many), least)

    def test_ways_that_cross_one_another(self):
        rng = random.Random(125)
        for source in [woven_source(rng) for _ in range(400)]:
            for line in range(len(source.lines()) + 1):
                many = available_many(source, line)
                if many > 11:
                    break
                least = len(next(barring_lots(all_ways(source, many), many)))
                carried = carried_terms(source, line)
                self.assertEqual((fewest_carried(source, line), len(carried)), (least, least))
                self.assertTrue(is_carried(source, line, carried))
                ways = carried_ways(source, line)
                self.assertEqual(len(ways), least)
                self.assertTrue(are_ways(source, line, ways))

    def test_a_way_that_is_found_first_gives_way(self):
        source = source_of("read a / read b / u = g(a, b) / v = g(b) / w = h(a, u) / x = g(v) / tell a / tell w / tell x")
        self.assertEqual(fewest_carried(source, 9), 2)
        source = source_of("read a / read b / v = g(b) / w = f(v) / x = g(h(b), w) / tell w / tell x")
        self.assertEqual(carried_terms(source, 7), [1])
        source = source_of("read a / read b / p = f(a, b) / q = g(a) / tell p / tell q")
        self.assertEqual(fewest_carried(source, 6), 2)
        self.assertTrue(are_ways(source, 6, carried_ways(source, 6)))
        source = source_of("read a / read b / u = f(g(a), k(k(b))) / v = h(h(h(a))) / tell u / tell v")
        self.assertEqual(fewest_carried(source, 6), 2)
        self.assertEqual(len(carried_ways(source, 6)), 2)
        self.assertTrue(are_ways(source, 6, carried_ways(source, 6)))

    def test_ways_against_all_lots_of_ways(self):
        for source in random_sources(124, 60, lines=9):
            for line in range(len(source.lines()) + 1):
                many = available_many(source, line)
                ways = all_ways(source, many)[:7]
                for size in range(3):
                    for lot in itertools.product(ways, repeat=size):
                        met = [number for way in lot for number in way if number < many]
                        self.assertEqual(are_ways(source, line, list(lot)), len(set(met)) == len(met))

    def test_terms_that_are_not_available_can_be_shared(self):
        source = source_of("read a / read b / x = f(a) / y = g(b) / z = k(m(x, y)) / tell z")
        self.assertEqual(fewest_carried(source, 4), 2)
        self.assertEqual(carried_terms(source, 4), [2, 3])
        self.assertTrue(are_ways(source, 4, [[5, 4, 2, 0], [5, 4, 3, 1]]))
        self.assertTrue(are_ways(source, 4, carried_ways(source, 4)))
        self.assertFalse(are_ways(source, 5, [[5, 4, 2, 0], [5, 4, 3, 1]]))
        self.assertEqual(fewest_carried(source, 5), 1)

    def test_what_needs_no_read_is_not_carried(self):
        source = source_of("read a / x = k() / y = f(x, x) / tell y / tell x")
        for line in range(6):
            self.assertEqual(carried_terms(source, line), [])
            self.assertTrue(is_carried(source, line, []))
        self.assertTrue(is_carried(source, 3, [1]))

    def test_told_reads(self):
        source = source_of("read a / read b / tell a / x = f(a, b) / tell x")
        self.assertEqual(carried_terms(source, 1), [0])
        self.assertEqual(carried_ways(source, 1), [[0]])
        self.assertEqual(fewest_carried(source, 2), 2)
        self.assertEqual(carried_terms(source, 5), [0, 2])
        self.assertTrue(are_ways(source, 5, [[0], [2, 1]]))

    def test_is_carried_of_any_object(self):
        source = read_source(T_TEXT)
        for thing in [[2], (2,), [2, 0], [0, 2], [1, 0], (0, 1, 2)]:
            self.assertIs(is_carried(source, 3, thing), True, thing)
        for thing in OBJECTS + [[0], [1], [], [2, 2], [3], [2, 3], [True, 2], [2, None], [2, "0"], [[2]], [-1, 2], {2: 2},
                                source, Program([], [], []), function_of_somebody, [2, 10 ** 9], [0, True], [2, False]]:
            self.assertIs(is_carried(source, 3, thing), False, thing)

    def test_are_ways_of_any_object(self):
        source = read_source(T_TEXT)
        for thing in [[], (), [[2, 0]], ((2, 1),), [[4, 3, 2, 0]], [[4, 2, 1]]]:
            self.assertIs(are_ways(source, 3, thing), True, thing)
        self.assertTrue(are_ways(source, 2, [[2, 0], [2, 1]]))
        self.assertTrue(are_ways(source, 2, [[4, 3, 2, 0], (4, 2, 1)]))
        things = [thing for thing in OBJECTS if thing not in ([], ())]
        things += [[[]], [[0]], [[3, 2, 0]], [[4, 3, 2]], [[2, 0], [2, 1]], [[2, 0], [2, 0]], [[4, 1]], [[2, True]],
                   [[2, False]], [[2, 0, 0]], [2, 0], [[2, 5]], [[-1]], [["2", "0"]], [None], [[None]], [[4, 4, 2, 0]],
                   [[2, [0]]], "20", {0: [2, 0]}, [{2: 0}], source, [source], [[2, 0], None], [[4, -2, 2, 0]]]
        for thing in things:
            self.assertIs(are_ways(source, 3, thing), False, thing)

    def test_bad_line(self):
        source = read_source(T_TEXT)
        asks = [fewest_carried, carried_terms, carried_ways, lambda source, line: is_carried(source, line, None),
                lambda source, line: are_ways(source, line, None)]
        for ask in asks:
            ask(source, 7)
            for thing in [8, -1, True, False, None, "1", [1], (1,), {}, source, 10 ** 9, function_of_somebody]:
                with self.assertRaises(BadLine) as caught:
                    ask(source, thing)
                self.assertIs(caught.exception.thing, thing)
            for thing in OBJECTS + [Program([], [], [])]:
                with self.assertRaises(BadSource) as caught:
                    ask(thing, None)
                self.assertIs(caught.exception.thing, thing)

    def test_told_lists_are_new(self):
        source = read_source(T_TEXT)
        carried_terms(source, 3).clear()
        carried_ways(source, 3)[0].clear()
        self.assertEqual(carried_terms(source, 3), [2])
        self.assertTrue(are_ways(source, 3, carried_ways(source, 3)))
        self.assertEqual(len(carried_ways(source, 3)), 1)


if __name__ == "__main__":
    unittest.main()
