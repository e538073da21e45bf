"""[71]: what an edit costs, and which edited lines cost hours."""

import random
import unittest

from twoslots.edits import blamed, edit_cost
from twoslots.errors import BadLines, BadSource
from twoslots.orders import Order
from twoslots.plaintexts import plain_source
from twoslots.sources import Source
from twoslots.sourcetexts import read_source

from tests.hopeoracles import hours_by, needed_by, numbers_of
from tests.samples import OBJECTS, T_TEXT, source_of
from tests.test_changing import pairs_of_sources

T = read_source(T_TEXT)
OTHER = read_source(T_TEXT.replace("y = g(x, f(a, b))", "y = g(x, f(b, a))"))


def source_if_any(lines):
    try:
        return Source(lines)
    except BadLines:
        return None


def blamed_by_hand(source, other):
    found = []
    for at, line in enumerate(other.lines()):
        if line[0] != "give":
            continue
        nth = sum(row[:2] == line[:2] for row in other.lines()[:at])
        mine = [row for row in source.lines() if row[:2] == line[:2]]
        if nth < len(mine):
            without = source_if_any(other.lines()[:at] + [("give", line[1], mine[nth][2])] + other.lines()[at + 1:])
            if without is not None and hours_by(without) < hours_by(other):
                found.append((at + 1, hours_by(without)))
    return found


class Costs(unittest.TestCase):
    def test_the_example(self):
        self.assertEqual(edit_cost(T, OTHER), (0, [3, 4, 5], [3, 4]))
        self.assertEqual(edit_cost(OTHER, T), (0, [3, 4], [3, 4, 5]))

    def test_random_sources(self):
        for source, other in pairs_of_sources(681, 60):
            new = numbers_of(other, needed_by(other) - needed_by(source))
            gone = numbers_of(source, needed_by(source) - needed_by(other))
            self.assertEqual(edit_cost(source, other), (hours_by(other) - hours_by(source), new, gone))
            self.assertEqual(edit_cost(other, source), (hours_by(source) - hours_by(other), gone, new))

    def test_nothing_if_both_mean_the_same(self):
        for source, _ in pairs_of_sources(682, 20):
            self.assertEqual(edit_cost(source, plain_source(source)), (0, [], []))
            self.assertEqual(edit_cost(plain_source(source), source), (0, [], []))

    def test_fewer_hours(self):
        self.assertEqual(edit_cost(T, Source([])), (-3, [], [2, 3, 4]))
        self.assertEqual(edit_cost(Source([]), T), (3, [2, 3, 4], []))


class Blamed(unittest.TestCase):
    def test_one_line_that_costs(self):
        source = source_of("read a / x = f(a) / y = g(x) / tell y")
        other = source_of("read a / x = f(h(a)) / y = g(m(x)) / tell y")
        self.assertEqual(blamed(source, other), [(2, 3), (3, 3)])
        self.assertEqual(blamed(other, source), [])
        self.assertEqual(blamed(source, source), [])

    def test_the_k_th_with_the_k_th(self):
        source = source_of("read a / x = f(a) / x = g(x) / x = h(x) / tell x")
        other = source_of("read a / x = f(m(a)) / x = g(x) / x = h(m(m(x))) / x = u(x) / tell x")
        self.assertEqual(blamed(source, other), [(2, 6), (4, 5)])
        other = source_of("read a / u = a / x = f(a) / tell u / x = g(m(x)) / tell x")
        self.assertEqual(blamed(source, other), [(5, 2)])

    def test_a_read_is_none_of_those_that_give(self):
        source = source_of("read a / a = f(a) / a = g(a) / tell a")
        other = source_of("a = k() / a = m(m(a)) / tell a")
        self.assertEqual(blamed(source, other), [(2, 2)])
        self.assertEqual(blamed(other, source), [])

    def test_lines_that_are_no_source_then(self):
        source = source_of("read a / w = a / x = f(w) / tell x")
        other = source_of("read a / x = f(m(a)) / w = m(m(a)) / tell x")
        self.assertEqual(blamed(source, other), [])
        other = source_of("read a / w = m(m(a)) / x = f(m(a)) / tell x")
        self.assertEqual(blamed(source_of("read a / w = a / x = w / tell x"), other), [])
        other = source_of("read a / w = a / x = f(m(a)) / tell x")
        self.assertEqual(blamed(source, other), [(3, 1)])

    def test_names_that_the_source_does_not_give(self):
        self.assertEqual(blamed(Source([]), T), [])
        self.assertEqual(blamed(T, Source([])), [])
        self.assertEqual(blamed(source_of("read x / read y / read z"), T), [])

    def test_random_sources(self):
        some = 0
        for source, other in pairs_of_sources(683, 100):
            for one, two in ((source, other), (other, source)):
                told = blamed(one, two)
                self.assertEqual(told, blamed_by_hand(one, two))
                some += len(told) > 0
        self.assertGreater(some, 15)

    def test_a_part_of_a_line_back(self):
        rng = random.Random(684)
        for source, other in pairs_of_sources(685, 10):
            at = rng.randrange(len(source.lines()) + 1)
            lines = source.lines()[:at] + [("give", "new", ("k",))] + source.lines()[at:]
            self.assertEqual(blamed(Source(lines), source), [])
            self.assertEqual([row for row in blamed(other, Source(lines)) if row[0] == at + 1], [])


class Errors(unittest.TestCase):
    def test_no_source(self):
        for thing in OBJECTS + [Order(0, [])]:
            for ask in (edit_cost, blamed):
                with self.assertRaises(BadSource) as caught:
                    ask(thing, None)
                self.assertIs(caught.exception.thing, thing)
                with self.assertRaises(BadSource) as caught:
                    ask(T, thing)
                self.assertIs(caught.exception.thing, thing)

    def test_told_lists_are_new(self):
        edit_cost(T, OTHER)[1].clear()
        edit_cost(T, OTHER)[2].clear()
        self.assertEqual(edit_cost(T, OTHER), (0, [3, 4, 5], [3, 4]))


if __name__ == "__main__":
    unittest.main()
