"""[43]: plans of the fewest hours, counted and numbered."""

import unittest

from twoslots.errors import BadNumber, BadOrder, BadPlan
from twoslots.orders import Order
from twoslots.plancounts import count_plans, plan_at, plan_number
from twoslots.plans import best_plan, fewest_hours

from tests.planoracles import Q_ORDER, THREE_AND_THREE, T_ORDER, all_plans, random_small_orders, some_orders
from tests.samples import OBJECTS


class PlanCounts(unittest.TestCase):
    def test_the_example(self):
        self.assertEqual(count_plans(Q_ORDER), 4)
        self.assertEqual(plan_at(Q_ORDER, 0), [[0, 1], [2, 4], [3, 5]])
        self.assertEqual(plan_number(Q_ORDER, [[1, 4], [0, 5], [2, 3]]), 3)

    def test_all_plans_there_and_back(self):
        for order in random_small_orders(351, 150, most=6) + some_orders():
            plans = all_plans(order, fewest_hours(order))
            self.assertEqual(plans, sorted(plans))
            self.assertEqual(count_plans(order), len(plans))
            for number, plan in enumerate(plans):
                self.assertEqual(plan_at(order, number), plan)
                self.assertEqual(plan_number(order, plan), number)
                self.assertEqual(plan_number(order, tuple(tuple(hour) for hour in plan)), number)
            self.assertIn(best_plan(order), plans)

    def test_no_things(self):
        order = Order(0, [])
        self.assertEqual((count_plans(order), plan_at(order, 0), plan_number(order, [])), (1, [], 0))
        self.assertIsNone(plan_number(order, [[]]))

    def test_hours_of_one_come_ahead_of_hours_of_two(self):
        order = Order(3, [])
        self.assertEqual([plan_at(order, number) for number in range(count_plans(order))],
                         [[[0], [1, 2]], [[0, 1], [2]], [[0, 2], [1]], [[1], [0, 2]], [[1, 2], [0]], [[2], [0, 1]]])

    def test_a_plan_of_more_hours(self):
        self.assertIsNone(plan_number(Q_ORDER, [[0, 1], [2, 4], [3, 5], []]))
        self.assertIsNone(plan_number(Q_ORDER, [[0], [1, 4], [2, 3], [5]]))
        self.assertIsNone(plan_number(THREE_AND_THREE, [[0], [1], [2], [3, 4], [5]]))
        self.assertIsNone(plan_number(THREE_AND_THREE, [[0, 1], [], [2], [3, 4], [5]]))

    def test_bad_number(self):
        for order in (T_ORDER, Q_ORDER, Order(0, [])):
            for thing in [count_plans(order), -1, True, False, None, "0", [0], {}, order, 10 ** 30]:
                with self.assertRaises(BadNumber) as caught:
                    plan_at(order, thing)
                self.assertIs(caught.exception.thing, thing)

    def test_bad_plan(self):
        for thing in [None, 7, "", {}, [], [[0], [1]], [[0], [1], [1]], [[0, 1], [2]], [[0], [2], [1]], [[0], [1], [2, 3]],
                      [[False], [1], [2]], T_ORDER]:
            with self.assertRaises(BadPlan) as caught:
                plan_number(T_ORDER, thing)
            self.assertIs(caught.exception.thing, thing)

    def test_order_first(self):
        for thing in OBJECTS:
            with self.assertRaises(BadOrder):
                plan_at(thing, -1)
            with self.assertRaises(BadOrder):
                plan_number(thing, None)

    def test_told_lists_are_new(self):
        order = Order(6, Q_ORDER.direct())
        plan = plan_at(order, 1)
        plan[0].append(7)
        plan.append([])
        self.assertEqual(plan_at(order, 1), [[0, 1], [3, 4], [2, 5]])
        self.assertEqual(order, Q_ORDER)

    def test_twelve_things(self):
        for order in (Order(12, []), Order(12, [(one, one + 6) for one in range(6)]),
                      Order(12, [(at, at + 1) for at in range(11)]), Order(12, [(at, at + 1) for at in range(6)]),
                      Order(12, [(at, at + 2) for at in range(10)]), Order(11, [(0, 5), (5, 6)])):
            count = count_plans(order)
            for number in sorted({0, 1 % count, count // 3, count - 1}):
                self.assertEqual(plan_number(order, plan_at(order, number)), number)
        self.assertEqual(count_plans(Order(12, [])), 479001600 // 64)
        self.assertEqual(count_plans(Order(12, [(at, at + 1) for at in range(11)])), 1)


if __name__ == "__main__":
    unittest.main()
