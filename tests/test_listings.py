"""[31]: listings of orders."""

import itertools
import math
import random
import unittest

from twoslots.errors import BadListing, BadNumber, BadOrder
from twoslots.listings import count_listings, listing_at, listing_number
from twoslots.orders import Order
from twoslots.sources import Source

from tests.samples import OBJECTS, function_of_somebody
from tests.test_orders import Q_PAIRS, random_orders

N_PAIRS = [(0, 2), (1, 2), (1, 3)]


def all_listings(order):
    """All listings, as lists compare."""
    found = []
    for listing in itertools.permutations(range(order.many())):
        place = {thing: at for at, thing in enumerate(listing)}
        if all(place[one] < place[other] for one, other in order.direct()):
            found.append(list(listing))
    return found


def out_forest(rng, many):
    """Each thing has at most one directly ahead of it."""
    things = rng.sample(range(many), many)
    return [(things[rng.randrange(at)], things[at]) for at in range(1, many) if rng.random() < 0.8]


def zigzag(many):
    """Each thing is ahead of its neighbours, or behind them."""
    return [(at, at + 1) if at % 2 == 0 else (at + 1, at) for at in range(many - 1)]


class Listings(unittest.TestCase):
    def test_all_of_small_orders(self):
        orders = [Order(many, pairs) for many, pairs in random_orders(141, 80, most=6)]
        orders += [Order(0, []), Order(1, []), Order(5, []), Order(4, N_PAIRS), Order(6, Q_PAIRS)]
        for order in orders:
            listings = all_listings(order)
            self.assertEqual(count_listings(order), len(listings))
            for number, listing in enumerate(listings):
                self.assertEqual(listing_at(order, number), listing)
                self.assertEqual(listing_number(order, listing), number)
                self.assertEqual(listing_number(order, tuple(listing)), number)

    def test_all_orders_of_three_things(self):
        every = [(one, other) for one in range(3) for other in range(3) if one != other]
        for size in range(4):
            for pairs in itertools.combinations(every, size):
                if any((other, one) in pairs for one, other in pairs) or {(0, 1), (1, 2), (2, 0)} == set(pairs):
                    continue
                if {(1, 0), (2, 1), (0, 2)} == set(pairs):
                    continue
                order = Order(3, pairs)
                listings = all_listings(order)
                self.assertEqual([listing_at(order, k) for k in range(count_listings(order))], listings)

    def test_no_things(self):
        self.assertEqual((count_listings(Order(0, [])), listing_at(Order(0, []), 0)), (1, []))
        self.assertEqual(listing_number(Order(0, []), ()), 0)

    def test_closed_forms(self):
        rng = random.Random(142)
        for many in (3, 9, 14, 60, 200):
            pairs = out_forest(rng, many)
            for order in (Order(many, pairs), Order(many, [(other, one) for one, other in pairs])):
                far = [order.behind(thing) for thing in range(many)]
                if all(len([pair for pair in order.direct() if pair[1] == k]) <= 1 for k in range(many)):
                    parts = math.prod(len(things) + 1 for things in far)
                else:
                    parts = math.prod(len(order.ahead(thing)) + 1 for thing in range(many))
                count = math.factorial(many) // parts
                self.assertEqual(count_listings(order), count)
                for number in {0, count - 1, count // 2, rng.randrange(count)}:
                    listing = listing_at(order, number)
                    self.assertEqual(sorted(listing), list(range(many)))
                    self.assertEqual(listing_number(order, listing), number)
                self.check_ends(order, count)

    def check_ends(self, order, count):
        """The first listing takes the least thing each time, the last one the greatest."""
        for number, pick in ((0, min), (count - 1, max)):
            listing = []
            left = list(range(order.many()))
            while left:
                thing = pick(k for k in left if not set(order.ahead(k)) & set(left))
                left.remove(thing)
                listing.append(thing)
            self.assertEqual(listing_at(order, number), listing)

    def test_one_ahead_of_all_and_chains(self):
        self.assertEqual(count_listings(Order(200, [])), math.factorial(200))
        self.assertEqual(count_listings(Order(200, [(k, k + 1) for k in range(199)])), 1)
        self.assertEqual(count_listings(Order(200, [(0, k) for k in range(1, 200)])), math.factorial(199))
        self.assertEqual(count_listings(Order(200, [(k, 0) for k in range(1, 200)])), math.factorial(199))
        self.assertEqual(count_listings(Order(20, [(2 * k, 2 * k + 1) for k in range(10)])), math.factorial(20) // 2 ** 10)

    def test_fourteen_things_of_any_order(self):
        order = Order(14, [(k, k + 7) for k in range(7)] + [(k, (k + 1) % 7 + 7) for k in range(7)])
        count = count_listings(order)
        self.assertEqual(listing_number(order, listing_at(order, count - 1)), count - 1)
        self.assertEqual(listing_number(order, listing_at(order, count // 3)), count // 3)
        self.check_ends(order, count)
        bipartite = Order(14, [(one, other) for one in range(7) for other in range(7, 14)])
        self.assertEqual(count_listings(bipartite), math.factorial(7) ** 2)

    def test_bad_number(self):
        for order in (Order(6, Q_PAIRS), Order(4, N_PAIRS), Order(3, []), Order(3, [(0, 2), (1, 2)])):
            for thing in [count_listings(order), -1, True, False, None, "0", [0], (0,), {}, order, 10 ** 30]:
                with self.assertRaises(BadNumber) as caught:
                    listing_at(order, thing)
                self.assertIs(caught.exception.thing, thing)
        with self.assertRaises(BadNumber):
            listing_at(Order(0, []), 1)

    def bad_listing(self, order, listing, index):
        with self.assertRaises(BadListing) as caught:
            listing_number(order, listing)
        self.assertEqual(caught.exception.index, index, listing)

    def test_bad_listing(self):
        for order in (Order(4, N_PAIRS), Order(4, [(0, 1), (0, 2)]), Order(4, [(1, 0), (2, 0)]), Order(4, [])):
            good = listing_at(order, 0)
            for thing in [0, None, "", "0123", {}, order, True, function_of_somebody, {0: 0, 1: 1, 2: 2, 3: 3}]:
                self.bad_listing(order, thing, 0)
            for many in range(4):
                self.bad_listing(order, good[:many], many)
                for thing in [4, -1, True, False, None, "0", [0], (0,), {}, order, 10 ** 9] + good[:many]:
                    self.bad_listing(order, good[:many] + [thing] + good[many:], many)
                    self.bad_listing(order, good[:many] + [thing], many)
            for thing in OBJECTS + [0, 4]:
                self.bad_listing(order, good + [thing], 4)
                self.bad_listing(order, good + [thing, None], 4)
        self.bad_listing(Order(4, N_PAIRS), [0, 2, 1, 3], 1)
        self.bad_listing(Order(4, N_PAIRS), [3, 1, 0, 2], 0)
        self.bad_listing(Order(0, []), [0], 0)

    def test_nothing_is_changed(self):
        order = Order(4, N_PAIRS)
        listing = listing_at(order, 1)
        kept = list(listing)
        listing_number(order, listing)
        self.assertEqual(listing, kept)
        listing.clear()
        self.assertEqual(listing_at(order, 1), kept)
        self.assertEqual(order, Order(4, N_PAIRS))

    def test_many_questions_to_one_order(self):
        """A run of questions to one order tells the same as each question put to an order made anew."""
        rng = random.Random(143)
        rows = [(14, [(0, 12), (1, 12), (1, 13), (2, 13)]), (14, zigzag(14)), (11, zigzag(11)), (7, zigzag(7)),
                (14, [(one, other) for one in range(7) for other in range(7, 14)]), (4, N_PAIRS), (6, Q_PAIRS), (0, []),
                (1, []), (14, []), (14, [(one, one + 4) for one in range(10)]), (60, out_forest(rng, 60)),
                (40, [(other, one) for one, other in out_forest(rng, 40)])]
        rows += random_orders(144, 40, most=10)
        for many, pairs in rows:
            order = Order(many, pairs)
            questions = self.questions(rng, Order(many, pairs))
            for ask, thing in questions + questions[::-1]:
                self.assertEqual(self.answer(ask, order, thing), self.answer(ask, Order(many, pairs), thing))
            self.assertTrue(order == Order(many, pairs) and Order(many, pairs) == order)
            self.assertEqual(order.direct(), Order(many, pairs).direct())
            self.assertEqual(order.levels(), Order(many, pairs).levels())

    def questions(self, rng, order):
        """How many, listings, their numbers again, and what is refused between them."""
        count = count_listings(order)
        asked = [(count_listings, None)]
        for number in (0, count - 1, rng.randrange(count), rng.randrange(count)):
            listing = listing_at(order, number)
            wrong = listing[:1] + listing[:1] + listing[2:]
            asked += [(listing_at, number), (listing_at, rng.choice([count, -1, True, None, "0", count + 7])),
                      (listing_number, listing), (listing_number, rng.choice([wrong, listing[1:], listing + [0], 7, None])),
                      (listing_number, tuple(listing)), (count_listings, None)]
        return asked

    def answer(self, ask, order, thing):
        """What is told, or the error and what it keeps."""
        try:
            return ask(order) if ask is count_listings else ask(order, thing)
        except (BadListing, BadNumber) as error:
            return error.__class__.__name__, vars(error)

    def test_told_lists_are_new_however_often_asked(self):
        for order in (Order(4, N_PAIRS), Order(5, [(0, 1), (0, 2)]), Order(5, [(1, 0), (2, 0)])):
            told = [listing_at(order, number) for number in range(count_listings(order))]
            for number, listing in enumerate(told):
                again = listing_at(order, number)
                self.assertIsNot(again, listing)
                again.reverse()
                self.assertEqual(listing_at(order, number), listing)
                self.assertEqual(listing_number(order, listing), number)

    def test_all_numbers_of_orders_in_parts(self):
        """Orders of which some things have nothing to do with others, and some are alike."""
        rng = random.Random(145)
        for _ in range(25):
            one, other = [pairs for _, pairs in random_orders(rng.random(), 2, most=3)]
            names = rng.sample(range(7), 7)
            pairs = [(names[a], names[b]) for a, b in one] + [(names[a + 3], names[b + 3]) for a, b in other]
            order = Order(7, pairs)
            listings = all_listings(order)
            self.assertEqual([listing_at(order, number) for number in range(count_listings(order))], listings)
            self.assertEqual([listing_number(order, listing) for listing in listings], list(range(len(listings))))

    def test_no_order(self):
        asks = [count_listings, lambda order: listing_at(order, None), lambda order: listing_number(order, None)]
        for thing in OBJECTS + [Source([])]:
            for ask in asks:
                with self.assertRaises(BadOrder) as caught:
                    ask(thing)
                self.assertIs(caught.exception.thing, thing)


if __name__ == "__main__":
    unittest.main()
