"""[52]: moves by which fewer cells are wanted."""

import unittest

from twoslots.cells import fewest_cells
from twoslots.errors import BadPlan, BadSource
from twoslots.holdups import lighter_moves
from twoslots.needed import order_of
from twoslots.orders import Order
from twoslots.sources import Source

from tests.planoracles import is_plan
from tests.samples import OBJECTS, source_of
from tests.test_cells import T, T_PLAN, sources_and_plans


def moves_by_hand(source, plan):
    """Each thing in each other hour that has a slot free."""
    order = order_of(source)
    found = []
    for thing in range(order.many()):
        for hour, row in enumerate(plan, 1):
            if len(row) > 1 or thing in row:
                continue
            other = [[one for one in old if one != thing] for old in plan]
            other[hour - 1] = sorted(other[hour - 1] + [thing])
            if thing in plan[-1] and other[-1] == []:
                del other[-1]
            if is_plan(order, other) and fewest_cells(source, other) < fewest_cells(source, plan):
                found.append((thing, hour, fewest_cells(source, other)))
    return found


class Moves(unittest.TestCase):
    def test_made_too_early(self):
        source = source_of("x = k() / y = f(x) / y = g(y) / z = j() / w = h(y, z) / tell w")
        plan = [[0, 3], [1], [2], [4]]
        self.assertEqual(fewest_cells(source, plan), 2)
        self.assertEqual(lighter_moves(source, plan), [])
        source = source_of("x = k() / u = m() / y = f(x, u) / y = g(y) / z = j() / w = h(y, z) / tell w")
        plan = [[4], [0, 1], [2], [3], [5]]
        self.assertEqual(fewest_cells(source, plan), 3)
        self.assertEqual(lighter_moves(source, plan), [(4, 3, 2), (4, 4, 2)])

    def test_made_too_late(self):
        source = source_of("read a / read b / read c / x = f(a, b) / y = g(c) / z = h(x, y) / tell z")
        self.assertEqual(lighter_moves(source, [[0], [1], [2]]), [])
        source = source_of("x = k() / u = m() / v = n() / y = f(x) / z = g(y, u) / w = h(z, v) / tell w")
        plan = [[0, 1], [2, 3], [4], [5]]
        self.assertEqual((fewest_cells(source, plan), lighter_moves(source, plan)), (3, [(2, 3, 2)]))

    def test_the_last_hour_falls_away_if_it_is_emptied(self):
        source = source_of("read a / read b / x = f(a) / y = g(b) / tell x / tell y / tell a")
        self.assertEqual(lighter_moves(source, [[0], [1]]), [])
        source = source_of("read a / read b / read c / x = f(a) / y = g(b, c) / tell x / tell y / tell a")
        self.assertEqual(fewest_cells(source, [[0], [1]]), 4)
        self.assertEqual(lighter_moves(source, [[0], [1]]), [(0, 2, 3), (1, 1, 3)])
        # An empty hour that was there stays, also as the last one.
        self.assertEqual(lighter_moves(source, [[0], [], [1]]), [(0, 3, 3), (1, 1, 3)])
        self.assertEqual(lighter_moves(source, [[0], [1], []]), [(0, 2, 3), (0, 3, 3), (1, 1, 3)])

    def test_small_sources_and_plans(self):
        moves = 0
        operations = [("f", 1), ("g", 2), ("g", 1), ("h", 3), ("k", 0), ("j", 0), ("m", 0)]
        for source, plan in sources_and_plans(431, 900, lines=18, operations=operations, names="abcdexyz"):
            wanted = moves_by_hand(source, plan)
            self.assertEqual(lighter_moves(source, plan), wanted)
            self.assertEqual(lighter_moves(source, tuple(tuple(hour) for hour in plan)), wanted)
            moves += len(wanted)
        self.assertGreater(moves, 40)

    def test_nothing_to_move(self):
        self.assertEqual((lighter_moves(Source([]), []), lighter_moves(Source([]), [[]])), ([], []))
        self.assertEqual(lighter_moves(T, T_PLAN), [])

    def test_errors(self):
        for thing in OBJECTS + [Order(0, [])]:
            with self.assertRaises(BadSource) as caught:
                lighter_moves(thing, None)
            self.assertIs(caught.exception.thing, thing)
        for thing in [None, 7, "", {}, [], [[0], [1]], [[0], [2], [1]], [[0, 1], [2]], [[0], [1], [2], [2]], T]:
            with self.assertRaises(BadPlan) as caught:
                lighter_moves(T, thing)
            self.assertIs(caught.exception.thing, thing)

    def test_nothing_is_changed(self):
        plan = [[0], [1]]
        lighter_moves(source_of("read a / read b / read c / x = f(a) / y = g(b, c) / tell x / tell y / tell a"), plan)
        self.assertEqual(plan, [[0], [1]])


if __name__ == "__main__":
    unittest.main()
