"""[78], [79], [80]: sources put behind themselves: they settle, or a ring grows."""

import math
import random
import unittest

from twoslots.errors import BadMany, BadSource
from twoslots.orders import Order
from twoslots.programs import Program
from twoslots.repeating import again, alike_again, growing_ring, is_growing_ring, settles
from twoslots.sources import Source
from twoslots.sourcetexts import read_source

from tests.pieceoracles import given_again, gives, reads_of, texts_between, turning_text
from tests.samples import OBJECTS, T_TEXT, function_of_somebody, source_of, terms_within

P = source_of("read x / read y / u = y / y = x / x = u / tell x / tell y")
Q = source_of("read x / read y / x = f(y) / tell x")
R = source_of("read x / x = f(x) / tell x")
T = read_source(T_TEXT)
EMPTY = Source([])


def wants(source, name):
    return sorted(reads_of([gives(source).get(name, ("read", name))]))


def is_ring_by_hand(source, thing):
    if not isinstance(thing, (list, tuple)) or len(thing) == 0 or any(not isinstance(name, str) for name in thing):
        return False
    if len(set(thing)) != len(thing) or any(name not in gives(source) for name in thing):
        return False
    if any(name not in wants(source, thing[at - 1]) for at, name in enumerate(thing)):
        return False
    return any(gives(source)[name][0] != "read" for name in thing)


def settled_by_hand(source, most=40):
    """The least numbers, by putting the source behind itself again and again; None up to so many times."""
    seen = []
    for many in range(most):
        given = given_again(source, many)
        if max([len(str(term)) for term in given.values()], default=0) > 4000:
            return None
        if given in seen:
            return (seen.index(given), many - seen.index(given))
        seen.append(given)
    return None


def sources(seed, many):
    return texts_between(seed, many, made=0.3) + texts_between(seed + 1, many, made=0.15, names="pqrstuvw", most=8)


class Settles(unittest.TestCase):
    def check(self, source):
        told = settles(source)
        self.assertEqual(told, settled_by_hand(source))
        ring = growing_ring(source)
        self.assertIs(told is None, ring is not None)
        if ring is not None:
            self.assertTrue(is_ring_by_hand(source, ring))
            self.assertTrue(is_growing_ring(source, ring))
            self.assertTrue(is_growing_ring(source, tuple(ring[1:] + ring[:1])))
        return told

    def test_the_examples(self):
        self.assertEqual([self.check(source) for source in (P, Q, R)], [(0, 2), (1, 1), None])
        self.assertEqual(growing_ring(R), ["x"])

    def test_random_sources(self):
        kinds = {}
        for source in sources(731, 200):
            told = self.check(source)
            kinds[told] = kinds.get(told, 0) + 1
        self.assertGreater(kinds[None], 25)
        self.assertGreater(len(kinds), 9)

    def test_nothing_and_names_told_for_themselves(self):
        self.assertEqual(self.check(EMPTY), (0, 1))
        self.assertEqual(self.check(source_of("read a / read b / tell b / x = f(a)")), (0, 1))
        self.assertEqual(self.check(source_of("read a / x = a / tell x")), (1, 1))
        self.assertEqual(self.check(source_of("x = k() / tell x")), (1, 1))

    def test_rings_of_names_with_rows_behind_them(self):
        names = "abcdefghij"
        given = {"a": "b", "b": "a", "c": "d", "d": "e", "e": "c", "f": ("g", "a", "c"), "g": ("f", "f"), "h": "g", "i": "j"}
        source = turning_text(names, given)
        self.assertEqual(settles(source), (3, 6))
        self.assertEqual(self.check(source), (3, 6))

    def test_great_rings(self):
        for sizes, rows in [((2, 3, 5), 4), ((4, 6), 1), ((7,), 7), ((2, 3, 5, 7), 0), ((1, 1, 2), 2)]:
            rings = [[f"r{at}x{spot}" for spot in range(size)] for at, size in enumerate(sizes)]
            given = {}
            for ring in rings:
                for at, name in enumerate(ring):
                    given[name] = ring[(at + 1) % len(ring)]
            names = list(given)
            for row in range(rows):
                given[f"q{row}"] = ("f", f"q{row - 1}" if row else "r0x0", "out")
            source = turning_text(names + [f"q{row}" for row in range(rows)] + ["out"], given)
            self.assertEqual(settles(source), (rows, math.lcm(*sizes)))
            self.assertIsNone(growing_ring(source))

    def test_growing_rings(self):
        names = "abcde"
        given = {"a": "b", "b": "c", "c": ("f", "a", "e"), "d": ("g", "a")}
        source = turning_text(names, given)
        self.assertIsNone(self.check(source))
        self.assertEqual(sorted(growing_ring(source)), ["a", "b", "c"])
        self.assertIsNone(self.check(turning_text("ab", {"a": ("f", "a", "b"), "b": "a"})))
        self.assertIsNone(self.check(turning_text("ab", {"a": ("f", "b"), "b": ("f", "a")})))
        self.assertEqual(self.check(turning_text("ab", {"a": ("f", "b"), "b": "b"})), (1, 1))

    def test_the_same_again(self):
        for source in sources(733, 30):
            self.assertEqual(growing_ring(source), growing_ring(Source(tuple(source.lines()))))


class Rings(unittest.TestCase):
    def test_any_object(self):
        source = turning_text("abcd", {"a": "b", "b": ("f", "a", "c"), "c": "c"})
        for thing in [["a", "b"], ["b", "a"], ("a", "b"), ("b", "a")]:
            self.assertIs(is_growing_ring(source, thing), True)
        wrong = [["a"], ["b"], ["c"], ["d"], ["a", "b", "c"], ["a", "b", "a", "b"], ["b", "c"], ["a", "c"], ["zz"], ["a", 1], [["a"], "b"],
                 [None], {"a": "b"}, {"a": 1, "b": 2}, "ab", source, T, ["a", "b", "a"]]
        for thing in wrong + OBJECTS:
            self.assertIs(is_growing_ring(source, thing), False, thing)

    def test_all_short_lists(self):
        found = 0
        for source in sources(734, 80):
            names = sorted(set(source.tells()) | set(source.reads()))[:5]
            lists = [[]] + [[one] for one in names] + [[one, two] for one in names for two in names]
            lists += [[one, two, three] for one in names for two in names for three in names]
            for thing in lists:
                right = is_ring_by_hand(source, thing)
                self.assertIs(is_growing_ring(source, thing), right)
                found += right
        self.assertGreater(found, 10)

    def test_a_name_that_is_not_told_is_on_no_growing_ring(self):
        source = source_of("read a / read b / x = f(a) / tell x")
        self.assertIs(is_growing_ring(source, ["a"]), False)
        self.assertIs(is_growing_ring(source, ["b"]), False)


class Again(unittest.TestCase):
    def check(self, source, many):
        done = again(source, many)
        given = given_again(source, many)
        self.assertEqual(done.tells(), source.tells())
        self.assertEqual(gives(done), given)
        self.assertEqual(sorted(done.reads()), sorted(reads_of(given.values())))

    def test_random_sources(self):
        for source in sources(735, 40):
            for many in range(6):
                if many < 4 or settles(source) is not None:
                    self.check(source, many)

    def test_no_times_give_each_name_itself(self):
        for source in (P, Q, R, T, EMPTY):
            self.check(source, 0)
        self.assertEqual(gives(again(T, 0)), {"z": ("read", "z"), "x": ("read", "x")})

    def test_growing_thirty_times(self):
        source = again(R, 30)
        self.assertEqual(len(terms_within(gives(source)["x"])), 31)
        source = turning_text("ab", {"a": ("f", "b", "b"), "b": ("g", "a", "a")})
        self.assertEqual(len(source.lines()), 8)
        self.assertEqual(len(again(source, 30).lines()), 2 + 2 + 60 + 4)

    def test_many_times_where_it_settles(self):
        rng = random.Random(736)
        for source in sources(737, 40):
            told = settles(source)
            if told is not None:
                for many in (10 ** 18, 10 ** 18 - rng.randint(1, 99), told[0] + told[1], 77):
                    less = told[0] + (many - told[0]) % told[1]
                    self.assertEqual(gives(again(source, many)), given_again(source, less))

    def test_what_a_settled_one_gives_is_what_it_gave(self):
        given = {"a": "b", "b": "c", "c": "a", "d": ("f", "a"), "e": ("g", "d", "b")}
        source = turning_text("abcde", given)
        self.assertEqual(settles(source), (2, 3))
        self.assertEqual(gives(again(source, 10 ** 18)), given_again(source, 4))
        self.assertEqual(gives(again(source, 2)), given_again(source, 2))

    def test_the_same_again(self):
        for source in sources(738, 20):
            self.assertEqual(again(source, 3), again(Source([list(line) for line in source.lines()]), 3))


class AlikeAgain(unittest.TestCase):
    def test_random_sources(self):
        for source in sources(739, 60):
            rows = [given_again(source, many) for many in range(5)]
            for one in range(5):
                for other in range(5):
                    self.assertIs(alike_again(source, one, other), rows[one] == rows[other])

    def test_great_numbers(self):
        many = 10 ** 18
        self.assertIs(alike_again(P, many, many - 2), True)
        self.assertIs(alike_again(P, many, many - 1), False)
        self.assertIs(alike_again(P, many - 1, 1), True)
        self.assertIs(alike_again(Q, many, 1), True)
        self.assertIs(alike_again(Q, many, 0), False)
        self.assertIs(alike_again(Q, 0, 0), True)
        self.assertIs(alike_again(R, many, many), True)
        self.assertIs(alike_again(R, many, many - 1), False)
        self.assertIs(alike_again(EMPTY, 0, many), True)


class Errors(unittest.TestCase):
    def test_no_source(self):
        asks = [lambda source: again(source, None), settles, growing_ring, lambda source: is_growing_ring(source, None),
                lambda source: alike_again(source, None, None)]
        for thing in OBJECTS + [Order(0, []), Program([], [], [])]:
            for ask in asks:
                with self.assertRaises(BadSource) as caught:
                    ask(thing)
                self.assertIs(caught.exception.thing, thing)

    def test_no_number(self):
        for thing in [-1, True, False, None, "1", [1], (), {}, T, function_of_somebody]:
            for ask in (lambda many: again(T, many), lambda many: alike_again(T, many, None), lambda many: alike_again(T, 1, many)):
                with self.assertRaises(BadMany) as caught:
                    ask(thing)
                self.assertIs(caught.exception.thing, thing)


if __name__ == "__main__":
    unittest.main()
