"""[42]: plans that are begun, and how they go on."""

import itertools
import random
import unittest

from twoslots.begun import begun_fault, hours_left, next_hours
from twoslots.errors import BadBegun, BadNumber, BadOrder
from twoslots.orders import Order
from twoslots.plans import fewest_hours, plan_fault

from tests.planoracles import Q_ORDER, T_ORDER, ahead_of, hours_next, is_plan, least_hours, random_small_orders
from tests.samples import NO_STRINGS, OBJECTS


# Behind a first hour that wastes a slot: what can be made next of Q_ORDER where three hours are left.
SIX = [[0], [0, 2], [0, 4], [2], [2, 4], [4]]


def random_begun(rng, order):
    """Some hours of a plan, some of them empty, some with a slot to spare."""
    made = set()
    begun = []
    for _ in range(rng.randint(0, 4)):
        hours = hours_next(ahead_of(order), made)
        hour = rng.choice(hours) if hours and rng.random() < 0.85 else []
        made |= set(hour)
        begun.append(hour)
    return begun, made


class Begun(unittest.TestCase):
    def test_the_example(self):
        self.assertEqual(next_hours(Q_ORDER, [], 3), [[0, 1], [1, 4]])
        self.assertEqual(hours_left(Q_ORDER, [[0, 4]]), 3)
        self.assertEqual(hours_left(Q_ORDER, [[0, 1]]), 2)
        self.assertEqual(next_hours(Q_ORDER, [[0, 4]], 3), [])
        self.assertEqual(next_hours(Q_ORDER, [[0, 4]], 4), [[1]])

    def test_hours_that_waste_slots(self):
        self.assertEqual(hours_left(Q_ORDER, [[1], []]), 3)
        self.assertEqual(next_hours(Q_ORDER, [[1], []], 4), [])
        self.assertEqual(next_hours(Q_ORDER, [[1], []], 5), SIX)
        self.assertEqual(next_hours(Q_ORDER, [[1]], 4), SIX)

    def test_nothing_lacks(self):
        for begun in ([[0], [1], [2]], [[0], [], [1], [2], []]):
            self.assertEqual(hours_left(T_ORDER, begun), 0)
            self.assertEqual(next_hours(T_ORDER, begun, 9), [])
        self.assertEqual((hours_left(Order(0, []), []), next_hours(Order(0, []), [[], []], 5)), (0, []))

    def test_small_orders(self):
        rng = random.Random(341)
        for order in random_small_orders(342, 250):
            begun, made = random_begun(rng, order)
            least = least_hours(order, made)
            self.assertIsNone(begun_fault(order, begun))
            self.assertEqual(hours_left(order, begun), least)
            for hours in range(len(begun) + least + 3):
                wanted = []
                for hour in hours_next(ahead_of(order), made):
                    if len(begun) + 1 + least_hours(order, made | set(hour)) <= hours:
                        wanted.append(hour)
                self.assertEqual(next_hours(order, begun, hours), wanted)
                self.assertEqual(bool(wanted), len(begun) + least <= hours and len(made) < order.many())

    def test_going_on(self):
        """Whichever next hour is taken, there is a plan of so many hours in the end."""
        rng = random.Random(343)
        for order in random_small_orders(344, 80):
            begun, _ = random_begun(rng, order)
            hours = len(begun) + hours_left(order, begun) + rng.randint(0, 1)
            while hours_left(order, begun):
                begun.append(rng.choice(next_hours(order, begun, hours)))
            self.assertTrue(is_plan(order, begun))
            self.assertLessEqual(len(begun), hours)
            self.assertIsNone(plan_fault(order, begun))

    def test_from_the_begin(self):
        for order in random_small_orders(345, 40):
            self.assertEqual(hours_left(order, ()), fewest_hours(order))


class Faults(unittest.TestCase):
    def test_as_of_plans_without_lacks(self):
        every = [[]] + [[one] for one in range(3)] + [[0, 1], (0, 2), [1, 2], [1, 0], [3], [True], None]
        for order in (Order(3, [(0, 2)]), T_ORDER, Order(3, [])):
            for many in range(4):
                for hours in itertools.product(every, repeat=many):
                    fault = plan_fault(order, hours)
                    wanted = None if fault is not None and fault[0] == "lacks" else fault
                    self.assertEqual(begun_fault(order, list(hours)), wanted)

    def test_no_list(self):
        for thing in [thing for thing in NO_STRINGS if not isinstance(thing, (list, tuple))] + ["", T_ORDER]:
            self.assertEqual(begun_fault(T_ORDER, thing), ("form", 0))
        self.assertIsNone(begun_fault(T_ORDER, []))

    def test_bad_begun(self):
        for ask in (hours_left, lambda order, begun: next_hours(order, begun, None)):
            for thing in [None, 7, "", {}, [0], [[3]], [[1]], [[0], [0]], [[0, 1]], [[True]], [[0, 1, 2]], T_ORDER]:
                with self.assertRaises(BadBegun) as caught:
                    ask(T_ORDER, thing)
                self.assertIs(caught.exception.thing, thing)

    def test_errors_in_order(self):
        for thing in OBJECTS:
            with self.assertRaises(BadOrder):
                next_hours(thing, None, None)
        with self.assertRaises(BadBegun):
            next_hours(T_ORDER, [[1]], -1)
        for thing in [-1, True, False, None, "3", [3], {}, T_ORDER]:
            for begun in ([], [[0], [1], [2]]):
                with self.assertRaises(BadNumber) as caught:
                    next_hours(T_ORDER, begun, thing)
                self.assertIs(caught.exception.thing, thing)

    def test_nothing_is_changed(self):
        begun = [[1], []]
        next_hours(Q_ORDER, begun, 5)[0].append(9)
        hours_left(Q_ORDER, begun)
        self.assertEqual(begun, [[1], []])
        self.assertEqual(next_hours(Q_ORDER, ((1,), ()), 5), SIX)


if __name__ == "__main__":
    unittest.main()
