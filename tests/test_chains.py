"""[39], [40]: chains, what is wrong with them, and their hours."""

import itertools
import unittest

from twoslots.chains import best_chain, chain_against, chain_fault, chain_hours
from twoslots.errors import BadChain, BadOrder
from twoslots.orders import Order
from twoslots.plans import fewest_hours

from tests.planoracles import Q_ORDER, THREE_AND_THREE, T_ORDER, hours_of_chain, is_chain, least_hours
from tests.planoracles import random_small_orders
from tests.samples import NO_STRINGS, OBJECTS, function_of_somebody


class Chains(unittest.TestCase):
    def test_the_examples(self):
        self.assertEqual(best_chain(T_ORDER), [[0], [1], [2]])
        self.assertEqual(chain_against(T_ORDER, 2), [[0], [1], [2]])
        self.assertIsNone(chain_against(T_ORDER, 3))
        self.assertEqual(best_chain(THREE_AND_THREE), [[0, 1, 2], [3, 4, 5]])
        for five in itertools.combinations(range(6), 5):
            self.assertEqual(chain_hours(Q_ORDER, [list(five)]), 3)
        self.assertEqual(hours_of_chain(best_chain(Q_ORDER)), 3)

    def test_no_things(self):
        self.assertEqual((best_chain(Order(0, [])), chain_hours(Order(0, []), [])), ([], 0))
        self.assertIsNone(chain_against(Order(0, []), 0))

    def test_no_chain_has_more_hours_than_the_fewest(self):
        """All chains of small orders: none wants more than the fewest hours, one wants just these."""
        for order in random_small_orders(331, 60, most=5):
            hours = [hours_of_chain(chain) for chain in self.all_chains(order)]
            self.assertEqual(max(hours), fewest_hours(order))
            self.assertEqual(max(hours), least_hours(order))

    def all_chains(self, order):
        things = range(order.many())
        blocks = [list(block) for size in range(1, order.many() + 1, 2) for block in itertools.combinations(things, size)]
        found = [[]]
        for chain in found:
            for block in blocks:
                if is_chain(order, chain + [block]):
                    found.append(chain + [block])
        return found

    def test_chain_hours(self):
        self.assertEqual(chain_hours(THREE_AND_THREE, []), 0)
        self.assertEqual(chain_hours(THREE_AND_THREE, [[1]]), 1)
        self.assertEqual(chain_hours(THREE_AND_THREE, ((0, 1, 2), (4,))), 3)
        self.assertEqual(chain_hours(Order(9, []), [list(range(9))]), 5)


class Faults(unittest.TestCase):
    def test_no_list(self):
        for thing in [thing for thing in NO_STRINGS if not isinstance(thing, (list, tuple))] + ["", "0", T_ORDER]:
            self.assertEqual(chain_fault(T_ORDER, thing), ("form", 0))

    def test_form(self):
        wrong = [None, 0, "0", {}, {0: 1}, [], (), [0, 3], [1, 0, 2], [0, 1, 1], [-1], [6], [True], [0, True, 2], ["0"],
                 [None], [[0]], [0, 1, 2, 3], THREE_AND_THREE, [10 ** 12], function_of_somebody]
        for thing in wrong:
            self.assertEqual(chain_fault(THREE_AND_THREE, [thing]), ("form", 0), thing)
            self.assertEqual(chain_fault(THREE_AND_THREE, ([0], thing, None)), ("form", 1), thing)

    def test_again(self):
        self.assertEqual(chain_fault(T_ORDER, [[0], [1], [1]]), ("again", 2, 1))
        self.assertEqual(chain_fault(T_ORDER, [[0], [1], [0]]), ("again", 2, 0))
        self.assertEqual(chain_fault(THREE_AND_THREE, [[0, 1, 2], [1, 2, 3]]), ("again", 1, 1))
        self.assertEqual(chain_fault(THREE_AND_THREE, [[0], [0, 1]]), ("form", 1))

    def test_apart(self):
        self.assertEqual(chain_fault(THREE_AND_THREE, [[0, 1, 3], [2, 4, 5]]), ("apart", 1, 0, 2))
        self.assertEqual(chain_fault(THREE_AND_THREE, [[0, 1, 3], [4]]), ("apart", 1, 3, 4))
        self.assertEqual(chain_fault(T_ORDER, [[1], [0]]), ("apart", 1, 1, 0))
        self.assertEqual(chain_fault(T_ORDER, [[0], [2], [1]]), ("apart", 2, 2, 1))
        self.assertEqual(chain_fault(Q_ORDER, [[0, 1, 4], [2, 3, 5]]), ("apart", 1, 0, 2))
        self.assertEqual(chain_fault(Q_ORDER, [[0], [3], []]), ("form", 2))

    def test_chains(self):
        self.assertIsNone(chain_fault(T_ORDER, []))
        self.assertIsNone(chain_fault(T_ORDER, ((0,), (2,))))
        self.assertIsNone(chain_fault(T_ORDER, [[0, 1, 2]]))
        self.assertIsNone(chain_fault(THREE_AND_THREE, [[1], (3, 4, 5)]))
        self.assertIsNone(chain_fault(Q_ORDER, [[0, 1, 2, 3, 4]]))

    def first_fault(self, order, blocks):
        """What is wrong first, by the words of [39], of a list of blocks of the right form."""
        for index, block in enumerate(blocks):
            before = [thing for other in blocks[:index] for thing in other]
            for number in block:
                if number in before:
                    return ("again", index, number)
            for one, number in itertools.product(blocks[index - 1] if index else [], block):
                if one not in order.ahead(number):
                    return ("apart", index, one, number)
        return None

    def test_all_lists_of_blocks(self):
        every = [[one] for one in range(4)] + [list(three) for three in itertools.combinations(range(4), 3)]
        for order in (Order(4, [(0, 2), (1, 2), (1, 3)]), Order(4, [(3, 0), (0, 1), (2, 1)]),
                      Order(4, [(0, 1), (0, 2), (0, 3)])):
            for many in range(4):
                for blocks in itertools.product(every, repeat=many):
                    fault = self.first_fault(order, blocks)
                    self.assertEqual(chain_fault(order, blocks), fault)
                    if fault is None:
                        self.assertEqual(chain_hours(order, blocks), hours_of_chain(blocks))

    def test_bad_chain(self):
        for thing in [None, 7, "0", {}, [[]], [[0, 1]], [[0], [0]], [[1], [0]], [[3]], [[True]], T_ORDER]:
            with self.assertRaises(BadChain) as caught:
                chain_hours(T_ORDER, thing)
            self.assertIs(caught.exception.thing, thing)
        for thing in OBJECTS:
            with self.assertRaises(BadOrder) as caught:
                chain_hours(thing, [[7]])
            self.assertIs(caught.exception.thing, thing)

    def test_nothing_is_changed(self):
        chain = [[0, 1, 2], [3]]
        chain_fault(THREE_AND_THREE, chain)
        chain_hours(THREE_AND_THREE, chain)
        self.assertEqual(chain, [[0, 1, 2], [3]])


if __name__ == "__main__":
    unittest.main()
