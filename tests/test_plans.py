"""[37], [38], [40], [41]: plans, their hours, and their empty slots."""

import itertools
import random
import unittest

from twoslots.begun import begun_fault, hours_left, next_hours
from twoslots.chains import best_chain, chain_against, chain_fault, chain_hours
from twoslots.errors import BadNumber, BadOrder
from twoslots.needed import order_of
from twoslots.orders import Order
from twoslots.plancounts import count_plans, plan_at, plan_number
from twoslots.plans import best_plan, empty_slots, fewest_hours, plan_fault, plan_within
from twoslots.sources import Source
from twoslots.sourcetexts import read_source

from tests.planoracles import Q_ORDER, THREE_AND_THREE, T_ORDER, all_plans, all_small_orders, hours_of_chain, is_chain
from tests.planoracles import is_plan, layered_order, least_hours, mixed, most_pairs, random_small_orders, some_orders
from tests.samples import NO_STRINGS, OBJECTS, T_TEXT


class Plans(unittest.TestCase):
    def test_the_examples(self):
        order = order_of(read_source(T_TEXT))
        self.assertEqual(order, T_ORDER)
        self.assertEqual((fewest_hours(order), best_plan(order), empty_slots(order)), (3, [[0], [1], [2]], 3))
        self.assertIsNone(plan_within(order, 2))
        self.assertEqual((fewest_hours(Q_ORDER), empty_slots(Q_ORDER)), (3, 0))
        self.assertIn(best_plan(Q_ORDER), all_plans(Q_ORDER, 3))
        self.assertEqual((fewest_hours(THREE_AND_THREE), empty_slots(THREE_AND_THREE)), (4, 2))

    def test_no_things(self):
        order = Order(0, [])
        self.assertEqual((fewest_hours(order), best_plan(order), plan_within(order, 0), empty_slots(order)), (0, [], [], 0))

    def check(self, order, least):
        """All of [38], [40] where the least number of hours is known."""
        plan = best_plan(order)
        chain = best_chain(order)
        self.assertTrue(is_plan(order, plan), (order.direct(), plan))
        self.assertTrue(is_chain(order, chain), (order.direct(), chain))
        self.assertEqual((len(plan), fewest_hours(order), hours_of_chain(chain)), (least, least, least))
        self.assertEqual((chain_hours(order, chain), empty_slots(order)), (least, 2 * least - order.many()))
        for hours in [*range(max(0, least - 2), least + 3), 1000]:
            within = plan_within(order, hours)
            against = chain_against(order, hours)
            self.assertEqual((within is None) + (against is None), 1)
            if within is None:
                self.assertTrue(is_chain(order, against) and hours_of_chain(against) > hours)
            else:
                self.assertTrue(is_plan(order, within) and len(within) <= hours)
            self.assertEqual(within is None, hours < least)

    def test_all_orders_of_five_things(self):
        for many in range(6):
            for order in all_small_orders(many):
                self.check(order, least_hours(order))

    def test_random_orders(self):
        for order in random_small_orders(321, 400, most=9) + some_orders():
            self.check(order, least_hours(order))
            self.assertEqual(fewest_hours(order), order.many() - most_pairs(order))

    def test_layers(self):
        rng = random.Random(322)
        for _ in range(120):
            sizes = [rng.randint(1, 4) for _ in range(rng.randint(1, 4))]
            order = layered_order(rng, sizes, rng.choice([0.3, 0.7, 1]))
            self.check(order, least_hours(order))

    def test_side_by_side(self):
        for one, other in self.pairs_of_orders(323):
            many = one.many() + other.many()
            order = Order(many, one.direct() + self.moved(other, one.many()))
            greatest = max(fewest_hours(one), fewest_hours(other), (many + 1) // 2)
            self.check(order, greatest)

    def test_one_behind_the_other(self):
        for one, other in self.pairs_of_orders(324):
            many = one.many() + other.many()
            between = list(itertools.product(range(one.many()), range(one.many(), many)))
            order = Order(many, one.direct() + self.moved(other, one.many()) + between)
            self.check(order, fewest_hours(one) + fewest_hours(other))

    def pairs_of_orders(self, seed):
        return itertools.pairwise(random_small_orders(seed, 60, most=6))

    def moved(self, order, by):
        return [(one + by, other + by) for one, other in order.direct()]

    def test_without_one_direct_pair(self):
        """They fall by one at most."""
        for order in random_small_orders(325, 60):
            ahead = [(one, other) for other in range(order.many()) for one in order.ahead(other)]
            for pair in order.direct():
                less = Order(order.many(), [other for other in ahead if other != pair])
                self.assertIn(fewest_hours(order) - fewest_hours(less), (0, 1))

    def test_great_orders(self):
        rng = random.Random(326)
        order = Order(200, [])
        self.check(order, 100)
        self.check(Order(200, [(at, at + 1) for at in range(199)]), 200)
        # Layers of five, all of each ahead of all of the next: three hours each.
        pairs = [(one, other) for at in range(39) for one in range(5 * at, 5 * at + 5)
                 for other in range(5 * at + 5, 5 * at + 10)]
        self.check(Order(200, mixed(rng, 200, pairs)), 120)
        for count in (100, 250, 400, 1000, 4000):
            every = [(rng.randrange(200), rng.randrange(200)) for _ in range(count)]
            order = Order(200, mixed(rng, 200, [pair for pair in every if pair[0] < pair[1]]))
            self.check(order, fewest_hours(order))

    def test_free_ones_are_the_same_each_time(self):
        rng = random.Random(327)
        for order in random_small_orders(328, 60):
            pairs = [[one, other] for other in range(order.many()) for one in order.ahead(other)]
            rng.shuffle(pairs)
            again = Order(order.many(), pairs)
            self.assertEqual(best_plan(again), best_plan(order))
            self.assertEqual(best_chain(again), best_chain(order))
            self.assertEqual(plan_within(again, 7), plan_within(order, 7))
            self.assertEqual(chain_against(again, 2), chain_against(order, 2))

    def test_told_lists_are_new(self):
        order = Order(6, Q_ORDER.direct())
        for ask in (best_plan, best_chain, lambda one: plan_within(one, 3), lambda one: chain_against(one, 2)):
            told = ask(order)
            kept = [list(part) for part in told]
            told[0].append(77)
            told.append([])
            self.assertEqual(ask(order), kept)
        self.assertEqual(order, Q_ORDER)

    def test_no_order(self):
        asks = [fewest_hours, best_plan, empty_slots, lambda order: plan_within(order, None),
                lambda order: plan_fault(order, None), best_chain, lambda order: chain_against(order, None),
                lambda order: chain_hours(order, None), lambda order: chain_fault(order, None),
                lambda order: begun_fault(order, None), lambda order: hours_left(order, None),
                lambda order: next_hours(order, None, None), count_plans, lambda order: plan_at(order, None),
                lambda order: plan_number(order, None)]
        for thing in OBJECTS + [Source([]), [3, []], (3, [(0, 1)])]:
            for ask in asks:
                with self.assertRaises(BadOrder) as caught:
                    ask(thing)
                self.assertIs(caught.exception.thing, thing)

    def test_no_number(self):
        for order in some_orders():
            for ask in (plan_within, chain_against):
                for thing in [-1, True, False, None, "1", [1], (1,), {}, order, -10 ** 9]:
                    with self.assertRaises(BadNumber) as caught:
                        ask(order, thing)
                    self.assertIs(caught.exception.thing, thing)


class Faults(unittest.TestCase):
    def test_no_list(self):
        for thing in [thing for thing in NO_STRINGS if not isinstance(thing, (list, tuple))] + ["", "0", T_ORDER]:
            self.assertEqual(plan_fault(T_ORDER, thing), ("form", 0))

    def test_form(self):
        wrong = [None, 0, "0", {}, {0: 1}, [1, 0], [0, 0], [0, 1, 2], [-1], [6], [True], [False, 1], ["0"], [None],
                 [[0]], [0, None], (1, 0), Q_ORDER, [10 ** 12]]
        for thing in wrong:
            self.assertEqual(plan_fault(Q_ORDER, [thing]), ("form", 1), thing)
            self.assertEqual(plan_fault(Q_ORDER, ([0, 1], [], thing, None)), ("form", 3), thing)

    def test_again(self):
        self.assertEqual(plan_fault(Q_ORDER, [[0, 1], [1, 5]]), ("again", 2, 1))
        self.assertEqual(plan_fault(Q_ORDER, [[0, 1], [4], [0, 4]]), ("again", 3, 0))
        # Ahead of it form is asked of the same hour, of a later hour behind it.
        self.assertEqual(plan_fault(Q_ORDER, [[0, 1], [1, 0]]), ("form", 2))
        self.assertEqual(plan_fault(Q_ORDER, [[0, 1], [1], None]), ("again", 2, 1))

    def test_early(self):
        self.assertEqual(plan_fault(Q_ORDER, [[0, 1], [2, 5]]), ("early", 2, 5))
        self.assertEqual(plan_fault(Q_ORDER, [[2, 3]]), ("early", 1, 2))
        self.assertEqual(plan_fault(Q_ORDER, [[1, 2]]), ("early", 1, 2))
        self.assertEqual(plan_fault(Order(3, [(0, 1), (1, 2)]), [[0], [2]]), ("early", 2, 2))
        self.assertEqual(plan_fault(Q_ORDER, [[0, 1], [1, 5]]), ("again", 2, 1))
        self.assertEqual(plan_fault(Q_ORDER, [[0], [0, 2]]), ("again", 2, 0))
        self.assertEqual(plan_fault(Q_ORDER, [[2], [2, 1]]), ("early", 1, 2))

    def test_lacks(self):
        self.assertEqual(plan_fault(Q_ORDER, []), ("lacks", 0))
        self.assertEqual(plan_fault(Q_ORDER, [[0, 1], [], [2, 4]]), ("lacks", 3))
        self.assertEqual(plan_fault(Q_ORDER, ((4,), (1,))), ("lacks", 0))
        self.assertIsNone(plan_fault(Order(0, []), []))

    def test_plans(self):
        self.assertIsNone(plan_fault(Q_ORDER, [[0, 1], [2, 4], [3, 5]]))
        self.assertIsNone(plan_fault(Q_ORDER, ((), (0, 1), [2, 4], (), (3, 5), ())))
        self.assertIsNone(plan_fault(Order(0, []), [[], ()]))

    def first_fault(self, order, hours):
        """What is wrong first, by the words of [37], of a list of hours that are ascending lists of numbers."""
        made = set()
        for at, hour in enumerate(hours, 1):
            for number in hour:
                if number in made:
                    return ("again", at, number)
            for number in hour:
                if not set(order.ahead(number)) <= made:
                    return ("early", at, number)
            made |= set(hour)
        lacks = set(range(order.many())) - made
        return ("lacks", min(lacks)) if lacks else None

    def test_all_lists_of_hours(self):
        every = [[]] + [[one] for one in range(4)] + [list(pair) for pair in itertools.combinations(range(4), 2)]
        for order in (Order(4, [(0, 2), (1, 2), (1, 3)]), Order(4, [(3, 0), (0, 1)]), Order(4, [])):
            for many in range(4):
                for hours in itertools.product(every, repeat=many):
                    self.assertEqual(plan_fault(order, hours), self.first_fault(order, hours))


if __name__ == "__main__":
    unittest.main()
