"""[69], [70]: lines that are given, and tells that force hours."""

import itertools
import unittest

from twoslots.errors import BadNumber, BadSource, NoLine, NoTold
from twoslots.givens import fewest_given, forcing, given_chain, holding_lines, hours_given, hours_without
from twoslots.needed import order_from
from twoslots.orders import Order
from twoslots.sources import Source
from twoslots.sourcetexts import read_source

from tests.hopeoracles import hours_by, hours_of_terms, needs, numbers_of, read_terms, rich_sources, told_terms_of_source
from tests.planoracles import hours_of_chain, is_chain
from tests.samples import OBJECTS, T_TEXT, function_of_somebody, random_sources, source_of, written

T = read_source(T_TEXT)


def giving_lines(source):
    return [at for at, line in enumerate(source.lines(), 1) if line[0] == "give"]


def value_of(source, line):
    """The term of a line's value as nested tuples: what its name means behind it."""
    return written(Source(source.lines()[:line]))[1][source.lines()[line - 1][1]]


def hours_with(source, lines):
    held = read_terms(source) | {value_of(source, line) for line in lines}
    return hours_of_terms(needs(told_terms_of_source(source), held))


def fewest_by_hand(source, hours):
    lines = giving_lines(source)
    for many in range(len(lines) + 1):
        for some in itertools.combinations(lines, many):
            if hours_with(source, some) <= hours:
                return list(some)
    return None


def some_sources(seed, many):
    return rich_sources(seed, many, least=2, most=7, lines=14) + random_sources(seed, 10)


class Given(unittest.TestCase):
    def test_the_example(self):
        self.assertEqual([hours_given(T, line) for line in (3, 4, 5)], [2, 2, 1])
        self.assertEqual(holding_lines(T), [(3, 1), (4, 1), (5, 2)])
        self.assertEqual((fewest_given(T, 1), fewest_given(T, 0)), ([5], [3, 5]))
        self.assertEqual([given_chain(T, line) for line in (3, 4, 5)], [None] * 3)

    def test_all_lines(self):
        for source in some_sources(671, 60):
            own = hours_by(source)
            saved = []
            for line in giving_lines(source):
                hours = hours_with(source, [line])
                self.assertEqual(hours_given(source, line), hours)
                self.assertLessEqual(hours, own)
                if hours < own:
                    saved.append((line, own - hours))
                self.check_chain(source, line, hours, own)
            self.assertEqual(holding_lines(source), saved)

    def check_chain(self, source, line, hours, own):
        chain = given_chain(source, line)
        if hours < own:
            self.assertIsNone(chain)
            return
        order = order_from(source, numbers_of(source, read_terms(source) | {value_of(source, line)}))
        self.assertTrue(is_chain(order, chain))
        self.assertEqual(hours_of_chain(chain), own)

    def test_lines_whose_value_is_a_read_s_save_nothing(self):
        source = source_of("read a / x = a / y = f(x) / z = y / tell z")
        self.assertEqual([hours_given(source, line) for line in (2, 3, 4)], [1, 0, 0])
        self.assertEqual(given_chain(source, 2), [[0]])
        self.assertEqual(holding_lines(source), [(3, 1), (4, 1)])

    def test_idle_lines_and_nothing_told(self):
        source = source_of("read a / x = f(a) / w = k(x) / y = g(x) / tell y")
        self.assertEqual((hours_given(source, 3), given_chain(source, 3)), (2, [[0], [1]]))
        source = source_of("read a / x = f(a)")
        self.assertEqual((hours_given(source, 2), given_chain(source, 2), holding_lines(source)), (0, [], []))
        self.assertEqual(holding_lines(Source([])), [])

    def test_what_a_given_line_spares_is_not_made(self):
        source = source_of("read a / x = f(g(h(a))) / y = m(a) / tell x / tell y")
        self.assertEqual((hours_given(source, 2), hours_given(source, 3)), (1, 3))
        self.assertEqual(hours_of_chain(given_chain(source, 3)), 3)

    def test_fewest_given(self):
        for source in some_sources(672, 40):
            for hours in range(hours_by(source) + 2):
                self.assertEqual(fewest_given(source, hours), fewest_by_hand(source, hours))

    def test_the_first_of_the_shortest(self):
        source = source_of("read a / u = f(a) / v = f(a) / w = g(u) / x = g(v) / y = h(a) / tell x / tell y")
        self.assertEqual([fewest_given(source, hours) for hours in range(4)], [[4, 6], [2], [], []])
        self.assertEqual(fewest_given(source, 10 ** 9), [])
        self.assertEqual(fewest_given(Source([]), 0), [])

    def test_no_line(self):
        for ask in (hours_given, given_chain):
            for thing in [0, 1, 2, 6, 7, 8, -1, 10 ** 9, True, False, None, "3", "x", [3], (), {}, T, function_of_somebody]:
                with self.assertRaises(NoLine) as caught:
                    ask(T, thing)
                self.assertIs(caught.exception.thing, thing)
            with self.assertRaises(NoLine):
                ask(Source([("give", "x", ("k",))]), True)

    def test_no_number(self):
        for thing in [-1, True, False, None, "3", [3], (), {}, T, function_of_somebody]:
            with self.assertRaises(BadNumber) as caught:
                fewest_given(T, thing)
            self.assertIs(caught.exception.thing, thing)

    def test_no_source(self):
        asks = [lambda source: hours_given(source, None), lambda source: given_chain(source, None), holding_lines, forcing,
                lambda source: fewest_given(source, None), lambda source: hours_without(source, None)]
        for thing in OBJECTS + [Order(0, [])]:
            for ask in asks:
                with self.assertRaises(BadSource) as caught:
                    ask(thing)
                self.assertIs(caught.exception.thing, thing)

    def test_told_lists_are_new(self):
        source = source_of("read a / x = f(a) / w = k(x) / y = g(x) / tell y")
        given_chain(source, 3)[0].clear()
        holding_lines(source).clear()
        fewest_given(source, 0).clear()
        forcing(source).clear()
        self.assertEqual(given_chain(source, 3), [[0], [1]])
        self.assertEqual((holding_lines(source), fewest_given(source, 0), forcing(source)), ([(2, 1), (4, 2)], [4], ["y"]))


def forcing_by_hand(source):
    pairs = written(source)[2]
    for many in range(len(pairs) + 1):
        for some in itertools.combinations(pairs, many):
            if hours_of_terms(needs([term for _, term in some], read_terms(source))) == hours_by(source):
                return [name for name, _ in some]
    return None


class Tells(unittest.TestCase):
    def test_the_example(self):
        self.assertEqual((hours_without(T, "z"), hours_without(T, "x"), forcing(T)), (1, 3, ["z"]))

    def test_each_told_name(self):
        for source in some_sources(673, 60):
            for name in source.tells():
                terms = [term for told, term in written(source)[2] if told != name]
                self.assertEqual(hours_without(source, name), hours_of_terms(needs(terms, read_terms(source))))

    def test_forcing(self):
        sizes = set()
        for source in some_sources(674, 80):
            self.assertEqual(forcing(source), forcing_by_hand(source))
            sizes.add(len(forcing(source)))
        self.assertLessEqual({0, 1, 2}, sizes)

    def test_in_the_order_of_the_lines(self):
        source = source_of("read a / p = f(a) / q = g(a) / c = h(a) / b = m(a) / tell q / tell c / tell b / tell p / tell a")
        self.assertEqual(forcing(source), ["q", "c", "b"])
        source = source_of("read a / p = f(a) / q = g(a) / c = g(a) / b = m(a) / tell q / tell c / tell b / tell p")
        self.assertEqual(forcing(source), ["q", "b", "p"])
        source = source_of("read a / b = f(a) / tell b / c = g(f(a)) / tell c / d = h(b) / tell d")
        self.assertEqual(forcing(source), ["c"])

    def test_nothing_told(self):
        for text in ("", "read a / x = f(a)", "read a / read b / tell b / tell a"):
            self.assertEqual(forcing(source_of(text)), [])
        self.assertEqual(hours_without(source_of("read a / x = f(a) / tell x"), "x"), 0)

    def test_no_told_name(self):
        for thing in ["a", "y", "q", "", "Z", "tell", 0, 3, True, None, ["z"], ("z",), {}, T, function_of_somebody]:
            with self.assertRaises(NoTold) as caught:
                hours_without(T, thing)
            self.assertIs(caught.exception.thing, thing)


if __name__ == "__main__":
    unittest.main()
