"""[30]: orders."""

import itertools
import random
import unittest

from twoslots.errors import BadMany, BadPairs, NoThing
from twoslots.orders import Order
from twoslots.programs import Program
from twoslots.sources import Source

from tests.samples import OBJECTS, function_of_somebody

Q_PAIRS = [(0, 3), (1, 2), (1, 3), (1, 5), (4, 5)]


def closed(many, pairs):
    """All pairs (one, other) of which one is ahead of the other."""
    ahead = {(one, other) for one, other in pairs}
    for middle in range(many):
        for one in range(many):
            for other in range(many):
                if (one, middle) in ahead and (middle, other) in ahead:
                    ahead.add((one, other))
    return ahead


def random_pairs(rng, many, count):
    """Pairs that put nothing ahead of itself, in any order, of things that are mixed."""
    things = list(range(many))
    rng.shuffle(things)
    pairs = []
    for _ in range(count if many > 1 else 0):
        one, other = sorted(rng.sample(range(many), 2))
        pairs.append((things[one], things[other]))
    return pairs


def random_orders(seed, many, most=7):
    rng = random.Random(seed)
    rows = []
    for _ in range(many):
        size = rng.randint(0, most)
        rows.append((size, random_pairs(rng, size, rng.randint(0, 2 * size))))
    return rows


class Orders(unittest.TestCase):
    def test_ahead_and_behind(self):
        order = Order(6, Q_PAIRS)
        self.assertEqual(order.many(), 6)
        self.assertEqual([order.ahead(thing) for thing in range(6)], [[], [], [1], [0, 1], [], [1, 4]])
        self.assertEqual([order.behind(thing) for thing in range(6)], [[3], [2, 3, 5], [], [], [5], []])
        self.assertEqual(order.direct(), Q_PAIRS)
        self.assertEqual(order.levels(), [[0, 1, 4], [2, 3, 5]])

    def test_nothing_and_one_thing(self):
        order = Order(0, [])
        self.assertEqual((order.many(), order.direct(), order.levels()), (0, [], []))
        order = Order(1, ())
        self.assertEqual((order.many(), order.direct(), order.levels(), order.ahead(0)), (1, [], [[0]], []))

    def test_direct_pairs_alone(self):
        order = Order(4, [(0, 3), (0, 1), (1, 2), (2, 3), (0, 2), (0, 1)])
        self.assertEqual(order.direct(), [(0, 1), (1, 2), (2, 3)])
        self.assertEqual(order.ahead(3), [0, 1, 2])
        self.assertEqual(order.levels(), [[0], [1], [2], [3]])

    def test_random_orders(self):
        for many, pairs in random_orders(131, 200):
            order = Order(many, pairs)
            ahead = closed(many, pairs)
            for thing in range(many):
                self.assertEqual(order.ahead(thing), sorted(one for one, other in ahead if other == thing))
                self.assertEqual(order.behind(thing), sorted(other for one, other in ahead if one == thing))
            direct = sorted((one, other) for one, other in ahead
                            if not any((one, k) in ahead and (k, other) in ahead for k in range(many)))
            self.assertEqual(order.direct(), direct)
            self.assertEqual(Order(many, order.direct()), order)
            for at in range(len(direct)):
                self.assertNotEqual(Order(many, direct[:at] + direct[at + 1:]), order)
            self.check_levels(order)

    def check_levels(self, order):
        levels = order.levels()
        earlier = []
        for at, level in enumerate(levels):
            self.assertEqual(level, sorted(level))
            self.assertTrue(level)
            for thing in level:
                self.assertTrue(set(order.ahead(thing)) <= set(earlier))
                self.assertTrue(at == 0 or set(order.ahead(thing)) & set(levels[at - 1]))
            earlier.extend(level)
        self.assertEqual(sorted(earlier), list(range(order.many())))

    def test_bad_many(self):
        for thing in [-1, True, False, None, "3", [], (), [1], {}, Order(0, []), function_of_somebody]:
            with self.assertRaises(BadMany) as caught:
                Order(thing, None)
            self.assertIs(caught.exception.thing, thing)

    def bad_pairs(self, many, pairs, index):
        with self.assertRaises(BadPairs) as caught:
            Order(many, pairs)
        self.assertEqual(caught.exception.index, index, pairs)

    def test_bad_pairs(self):
        for thing in OBJECTS + [Order(0, []), Source([])]:
            if not isinstance(thing, (list, tuple)):
                self.bad_pairs(3, thing, 0)
        for thing in OBJECTS + [(0,), (0, 1, 2), (0, 3), (3, 0), (-1, 0), (0, True), (False, 1), (0, None), (0, "1"), "01",
                                ((0,), 1), {0: 1, 1: 2}, (0, [1]), Order(0, []), (0, 10 ** 9)]:
            self.bad_pairs(3, [(0, 1), (1, 2), thing, None], 2)
        self.bad_pairs(0, [(0, 0)], 0)

    def test_ahead_of_itself(self):
        self.bad_pairs(3, [(0, 1), (1, 1)], 1)
        self.bad_pairs(3, [(0, 1), (1, 0)], 1)
        self.bad_pairs(3, [(0, 1), (1, 2), (0, 2), (2, 0), (1, 0)], 3)
        self.bad_pairs(4, [(2, 3), (0, 1), (3, 0), (1, 2)], 3)
        rng = random.Random(132)
        for _ in range(300):
            many = rng.randint(2, 5)
            pairs = [(rng.randrange(many), rng.randrange(many)) for _ in range(6)]
            first = [at for at in range(6) if any(one == other for one, other in closed(many, pairs[:at + 1]))]
            if first:
                self.bad_pairs(many, pairs, first[0])
            else:
                self.assertEqual(Order(many, pairs).many(), many)

    def test_no_thing(self):
        order = Order(3, [(0, 1)])
        for thing in [3, -1, True, False, None, "0", [0], (0,), {}, order, 10 ** 9, function_of_somebody]:
            for ask in (order.ahead, order.behind):
                with self.assertRaises(NoThing) as caught:
                    ask(thing)
                self.assertIs(caught.exception.thing, thing)
        with self.assertRaises(NoThing):
            Order(0, []).ahead(0)

    def test_equality(self):
        order = Order(3, [(0, 1), (1, 2)])
        self.assertTrue(order == Order(3, [[1, 2], [0, 2], [0, 1], [0, 1]]))
        self.assertTrue(order == Order(3, ((0, 1), (1, 2))))
        self.assertFalse(order != Order(3, [(0, 1), (1, 2)]))
        others = [Order(3, [(0, 1), (0, 2)]), Order(4, [(0, 1), (1, 2)]), Order(3, []), Source([]), Program([], [], [])]
        for thing in OBJECTS + others + [[(0, 1), (1, 2)]]:
            self.assertFalse(order == thing)
            self.assertTrue(order != thing)
        every = [list(pairs) for size in range(4) for pairs in itertools.combinations([(0, 1), (0, 2), (1, 2)], size)]
        for one in every:
            for other in every:
                self.assertEqual(Order(3, one) == Order(3, other), closed(3, one) == closed(3, other))

    def test_told_lists_are_new(self):
        pairs = [[0, 1], [1, 2]]
        order = Order(3, pairs)
        pairs[0][1] = 2
        pairs.append((2, 0))
        order.direct().clear()
        order.levels()[0].clear()
        order.levels().clear()
        order.ahead(2).clear()
        order.behind(0).clear()
        self.assertEqual(order, Order(3, [(0, 1), (1, 2)]))
        self.assertEqual((order.direct(), order.levels()), ([(0, 1), (1, 2)], [[0], [1], [2]]))
        self.assertEqual((order.ahead(2), order.behind(0)), ([0, 1], [1, 2]))


if __name__ == "__main__":
    unittest.main()
