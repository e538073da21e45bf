"""[76], [77]: sources put behind one another, and whether two can be told apart then."""

import random
import unittest

from twoslots.behind import alike_everywhere, parting_source, put_behind
from twoslots.errors import BadSource
from twoslots.orders import Order
from twoslots.partings import values_told
from twoslots.plaintexts import plain_source
from twoslots.sources import Source
from twoslots.sourcetexts import read_source, source_text

from tests.pieceoracles import given_behind, gives, reads_of, texts_between
from tests.samples import OBJECTS, T_TEXT, random_sources, source_of, written

P = source_of("read x / read y / u = y / y = x / x = u / tell x / tell y")
Q = source_of("read x / read y / x = f(y) / tell x")
T = read_source(T_TEXT)
EMPTY = Source([])


def some_pairs(seed, many):
    rng = random.Random(seed)
    sources = texts_between(seed, many) + random_sources(seed, many, names="pqab")
    return [(rng.choice(sources), rng.choice(sources)) for _ in range(2 * many)]


def box_of(rng, names):
    rows = {("f", (rng.randint(0, 3),)): rng.randint(0, 3) for _ in range(6)}
    rows.update({("g", (rng.randint(0, 3), rng.randint(0, 3))): rng.randint(0, 3) for _ in range(12)})
    return ([(name, list(values), value) for (name, values), value in rows.items()],
            [(name, rng.randint(0, 3)) for name in names], rng.randint(0, 3))


class PutBehind(unittest.TestCase):
    def check(self, one, other):
        done = put_behind(one, other)
        given = given_behind(gives(one), gives(other))
        self.assertEqual(gives(done), given)
        self.assertEqual(done.tells(), other.tells() + [name for name in one.tells() if name not in other.tells()])
        self.assertEqual(sorted(done.reads()), sorted(reads_of(given.values())))
        return done

    def test_the_examples(self):
        done = self.check(P, Q)
        self.assertEqual(written(done)[2], [("x", ("f", ("read", "x"))), ("y", ("read", "x"))])
        done = self.check(Q, P)
        self.assertEqual(written(done)[2], [("x", ("read", "y")), ("y", ("f", ("read", "y")))])

    def test_random_pairs(self):
        for one, other in some_pairs(721, 150):
            self.check(one, other)

    def test_names_that_are_read_and_told(self):
        one = source_of("read a / x = f(a) / tell x / tell a")
        other = source_of("read x / read b / y = g(x, b) / x = y / tell b / tell x")
        done = self.check(one, other)
        self.assertEqual(done.tells(), ["b", "x", "a"])
        self.assertEqual(sorted(done.reads()), ["a", "b"])

    def test_reads_that_stand_in_nothing_told_are_gone(self):
        self.assertEqual(self.check(source_of("read a / read b / x = k() / tell x"), EMPTY).reads(), [])
        self.assertEqual(self.check(source_of("read a / a = k() / tell a"), source_of("read a / y = f(a) / tell y")).reads(), [])
        self.assertEqual(self.check(EMPTY, source_of("read a / read b / tell b")).reads(), ["b"])

    def test_nothing(self):
        self.assertEqual(self.check(EMPTY, EMPTY), EMPTY)
        self.assertEqual(gives(self.check(T, EMPTY)), gives(T))
        self.assertEqual(gives(self.check(EMPTY, T)), gives(T))

    def test_three_are_the_same_whichever_two_come_first(self):
        sources = texts_between(722, 60)
        for one, other, third in zip(sources, sources[20:], sources[40:]):
            left = put_behind(put_behind(one, other), third)
            right = put_behind(one, put_behind(other, third))
            self.assertEqual(gives(left), gives(right))
            self.assertEqual(set(left.reads()), set(right.reads()))

    def test_by_boxes_what_the_one_tells_goes_on_as_starts(self):
        rng = random.Random(723)
        for one, other in some_pairs(724, 60):
            box = box_of(rng, "pqrstab")
            first = dict(values_told(one, box))
            starts = dict(box[1])
            starts.update(first)
            second = dict(values_told(other, (box[0], list(starts.items()), box[2])))
            wanted = dict(first)
            wanted.update(second)
            self.assertEqual(dict(values_told(put_behind(one, other), box)), wanted)

    def test_the_same_again(self):
        for one, other in some_pairs(725, 20):
            again = put_behind(Source(tuple(one.lines())), Source([list(line) for line in other.lines()]))
            self.assertEqual(source_text(put_behind(one, other)), source_text(again))


class AlikeEverywhere(unittest.TestCase):
    def check(self, one, other):
        names = set(gives(one)) | set(gives(other))
        alike = all(gives(one).get(name, ("read", name)) == gives(other).get(name, ("read", name)) for name in names)
        self.assertIs(alike_everywhere(one, other), alike)
        parting = parting_source(one, other)
        self.assertIs(parting is None, alike)
        if parting is not None:
            self.assertNotEqual(gives(put_behind(one, parting)), gives(put_behind(other, parting)))
            told = parting.tells()
            self.assertTrue(any(gives(put_behind(one, parting))[name] != gives(put_behind(other, parting))[name] for name in told))
        return alike

    def test_by_hand(self):
        self.assertTrue(self.check(P, source_of("read y / read x / t = x / x = y / tell x / y = t / tell y")))
        self.assertTrue(self.check(EMPTY, source_of("read a / read b / tell a / x = f(a)")))
        self.assertTrue(self.check(Q, source_of("read y / read q / x = f(y) / tell x / tell q / z = k()")))
        self.assertFalse(self.check(P, Q))
        self.assertFalse(self.check(EMPTY, Q))
        self.assertFalse(self.check(source_of("read a / x = a / tell x"), source_of("read a / tell a")))
        self.assertFalse(self.check(source_of("x = f() / tell x"), source_of("read a / x = f(a) / tell x")))

    def test_random_pairs(self):
        alike = 0
        for one, other in some_pairs(726, 100):
            self.check(one, other)
            alike += self.check(one, plain_source(one))
            idle = [("read", "zz"), ("give", "idle", ("u", "zz")), ("tell", "zz")]
            self.assertTrue(self.check(one, Source(one.lines() + idle)))
        self.assertEqual(alike, 200)

    def test_told_in_other_orders(self):
        for source in texts_between(727, 40):
            lines = source.lines()
            tells = [line for line in lines if line[0] == "tell"]
            other = Source([line for line in lines if line[0] != "tell"] + tells[::-1])
            self.assertTrue(self.check(source, other))
            self.assertEqual(parting_source(source, other), None)

    def test_the_same_again(self):
        for one, other in some_pairs(728, 20):
            self.assertEqual(parting_source(one, other), parting_source(Source(one.lines()), Source(other.lines())))


class Errors(unittest.TestCase):
    def test_no_source(self):
        for thing in OBJECTS + [Order(0, [])]:
            for ask in (put_behind, alike_everywhere, parting_source):
                with self.assertRaises(BadSource) as caught:
                    ask(thing, None)
                self.assertIs(caught.exception.thing, thing)
                with self.assertRaises(BadSource) as caught:
                    ask(T, thing)
                self.assertIs(caught.exception.thing, thing)


if __name__ == "__main__":
    unittest.main()
