"""[84]: orders told back from listings, and one more listing where not all are seen."""

import itertools
import random
import unittest

from twoslots.errors import BadSeen
from twoslots.listings import count_listings, listing_at
from twoslots.orders import Order
from twoslots.seen import order_of_seen, unseen

from tests.planoracles import Q_ORDER, all_small_orders, random_small_orders
from tests.samples import OBJECTS, function_of_somebody


def listings_of(order):
    return [listing_at(order, at) for at in range(count_listings(order))]


def ahead_in_all(seen):
    many = len(seen[0])
    return {(one, other) for one in range(many) for other in range(many)
            if one != other and all(row.index(one) < row.index(other) for row in seen)}


def listings_by_hand(many, pairs):
    return [list(row) for row in itertools.permutations(range(many))
            if all(row.index(one) < row.index(other) for one, other in pairs)]


def is_one_exchange_off(one, other):
    places = [at for at in range(len(one)) if one[at] != other[at]]
    return len(places) == 2 and places[1] == places[0] + 1 and sorted(one) == sorted(other)


class Seen(unittest.TestCase):
    def check(self, seen):
        """What is told of what is seen, against all listings there are; whether all are seen."""
        pairs = ahead_in_all(seen)
        order = order_of_seen(seen)
        self.assertEqual(order, Order(len(seen[0]), sorted(pairs)))
        rows = listings_by_hand(len(seen[0]), pairs)
        self.assertTrue(all(list(row) in rows for row in seen))
        told = unseen(seen)
        missing = [row for row in rows if row not in [list(one) for one in seen]]
        self.assertIs(told is None, not missing)
        if told is not None:
            self.assertIsInstance(told, list)
            self.assertIn(told, missing)
            self.assertTrue(any(is_one_exchange_off(list(row), told) for row in seen))
        return told is None

    def test_the_example(self):
        self.assertEqual(order_of_seen([[0, 1, 2], [2, 1, 0]]), Order(3, []))
        self.assertIn(unseen([[0, 1, 2], [2, 1, 0]]), ([1, 0, 2], [0, 2, 1], [2, 0, 1], [1, 2, 0]))
        self.assertFalse(self.check([[0, 1, 2], [2, 1, 0]]))
        self.assertIsNone(unseen([[0, 1, 2], [0, 2, 1]]))
        self.assertEqual(order_of_seen([[0, 1, 2], [0, 2, 1]]), Order(3, [(0, 1), (0, 2)]))

    def test_few_things(self):
        self.assertTrue(self.check([[]]))
        self.assertTrue(self.check([[], ()]))
        self.assertTrue(self.check(([0],)))
        self.assertTrue(self.check([[1, 0]]))
        self.assertTrue(self.check([[1, 0], (0, 1), [1, 0]]))

    def test_all_listings_of_small_orders_and_some_left_out(self):
        rng = random.Random(751)
        for order in all_small_orders(4) + random_small_orders(752, 20, most=5):
            rows = listings_of(order)
            rng.shuffle(rows)
            self.assertTrue(self.check(rows))
            self.assertEqual(order_of_seen(rows), order)
            for many in {1, len(rows) // 2, len(rows) - 1} - {0}:
                self.check(rng.sample(rows, many))

    def test_each_order_that_has_the_seen_ones_has_it_too(self):
        rng = random.Random(753)
        orders = all_small_orders(4)
        for _ in range(40):
            seen = [rng.sample(range(4), 4) for _ in range(rng.randint(1, 5))]
            told = unseen(seen)
            for order in orders if told is not None else []:
                rows = listings_of(order)
                if all(row in rows for row in seen):
                    self.assertIn(told, rows)

    def test_two_listings_of_a_diamond(self):
        self.assertFalse(self.check([[0, 1, 2, 3], [1, 0, 3, 2]]))
        self.assertTrue(self.check([[0, 1, 2, 3], [0, 2, 1, 3]]))

    def test_one_more_by_the_last_or_the_first_two_alone(self):
        self.assertFalse(self.check([[0, 1, 2], [1, 0, 2], [0, 2, 1], [2, 0, 1]]))
        self.assertFalse(self.check([[2, 1, 0], [2, 0, 1], [1, 2, 0], [1, 0, 2]]))
        every = listings_by_hand(3, [])
        for many in range(1, 7):
            for seen in itertools.combinations(every, many):
                self.check(list(seen))

    def test_the_same_again(self):
        rng = random.Random(754)
        for _ in range(30):
            seen = [rng.sample(range(5), 5) for _ in range(4)]
            told = unseen(seen)
            self.assertEqual(unseen(tuple(tuple(row) for row in seen)), told)
            told.append(7)
            self.assertNotEqual(unseen(seen), told)

    def test_what_is_passed_stays(self):
        seen = [[0, 1, 2], [2, 1, 0]]
        unseen(seen)[0] = 9
        order_of_seen(seen)
        self.assertEqual(seen, [[0, 1, 2], [2, 1, 0]])

    def test_at_the_limits(self):
        for many in (11, 12):
            rng = random.Random(755)
            seen = []
            while len(seen) < 200:
                row = rng.sample(range(many), many)
                row.sort(key=lambda thing: thing // 3)
                seen.append(row)
            order = order_of_seen(seen)
            told = unseen(seen)
            self.assertIsNotNone(told)
            self.assertNotIn(told, seen)
            self.assertTrue(any(is_one_exchange_off(row, told) for row in seen))
            self.assertIn(told, listings_of(order))
        rows = listings_of(Order(12, [(at, at + 1) for at in range(5)] + [(at, at + 1) for at in range(6, 11)] + [(1, 8)]))
        self.assertGreater(len(rows), 200)
        self.assertIsNotNone(unseen(rows[:200]))
        rows = listings_of(Q_ORDER)
        self.assertIsNone(unseen(rows * (200 // len(rows))))

    def test_bad_seen(self):
        for thing in OBJECTS + [Order(0, [])]:
            if thing not in (["a"], ("a",)):
                self.check_bad(thing, 0)
        self.check_bad([[0, 0]], 0)
        wrong = [None, 0, "01", {0: 1, 1: 0}, [0], [0, 1, 2], [], [0, 0], [1, 2], [-1, 0], [0, True], [False, 1], [0, "1"], [[0], 1], function_of_somebody]
        for thing in wrong:
            self.check_bad([[0, 1], (1, 0), thing, None], 2)
            self.check_bad(([1, 0], thing), 1)
        for thing in [["a"], ("a",), [None], [[1]], [[0, 2]], [[True]], [0]]:
            self.check_bad(thing, 0)

    def check_bad(self, thing, index):
        for ask in (order_of_seen, unseen):
            with self.assertRaises(BadSeen) as caught:
                ask(thing)
            self.assertEqual(caught.exception.index, index, thing)


if __name__ == "__main__":
    unittest.main()
