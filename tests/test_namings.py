"""[47], [48]: namings, and how many there are."""

import itertools
import unittest

from twoslots.cells import crowded_hour, fewest_cells, lives, waiting
from twoslots.errors import BadCells, BadPlan, BadSource
from twoslots.namings import count_namings, naming, naming_fault
from twoslots.needed import order_of
from twoslots.plans import best_plan
from twoslots.sources import Source

from tests.samples import NO_STRINGS, random_sources, source_of
from tests.test_cells import T, T_PLAN, sources_and_plans

RIGHT = {0: 1, 1: 2, 2: 1, 3: 2, 4: 2}


def is_naming(rows, thing):
    """Whether no two that wait behind one hour lie in one cell."""
    return all(len({thing[value] for value in row}) == len(row) for row in rows)


class Namings(unittest.TestCase):
    def test_the_example(self):
        self.assertIsNone(naming(T, T_PLAN, 1))
        self.assertIsNone(naming_fault(T, T_PLAN, naming(T, T_PLAN, 2)))
        self.assertEqual((count_namings(T, T_PLAN, 2), count_namings(T, T_PLAN, 3)), (4, 72))
        self.assertIsNone(naming_fault(T, T_PLAN, RIGHT))

    def test_just_one_of_a_naming_and_a_crowded_hour(self):
        for source, plan in sources_and_plans(371, 80, lines=10):
            rows = waiting(source, plan)
            fewest = fewest_cells(source, plan)
            self.assertEqual(len(rows[crowded_hour(source, plan)]), fewest)
            for cells in [*range(fewest + 3), 999]:
                told = naming(source, plan, cells)
                self.assertEqual(told is None, any(len(row) > cells for row in rows))
                if told is not None:
                    self.assertEqual(list(told), sorted(lives(source, plan)))
                    self.assertTrue(all(1 <= cell <= cells for cell in told.values()))
                    self.assertTrue(is_naming(rows, told))
                    self.assertIsNone(naming_fault(source, plan, told))

    def test_the_same_one_each_time(self):
        for source, plan in sources_and_plans(372, 20):
            again = Source([list(line) for line in source.lines()])
            for cells in (fewest_cells(source, plan), 9):
                told = naming(again, tuple(tuple(hour) for hour in plan), cells)
                self.assertEqual(list(told.items()), list(naming(source, plan, cells).items()))
                told.clear()
                self.assertEqual(len(naming(source, plan, cells)), len(lives(source, plan)))

    def test_no_values(self):
        self.assertEqual((naming(Source([]), [], 0), count_namings(Source([]), [[]], 0)), ({}, 1))
        self.assertIsNone(naming_fault(Source([]), [], {}))
        self.assertIsNone(naming(source_of("read a"), [], 0))
        self.assertEqual(count_namings(source_of("read a"), [], 0), 0)


class Counts(unittest.TestCase):
    def test_all_ways_to_give_cells(self):
        for source in random_sources(373, 60, lines=7):
            plan = best_plan(order_of(source))
            values = list(lives(source, plan))
            if len(values) > 5:
                continue
            rows = waiting(source, plan)
            for cells in range(4):
                ways = itertools.product(range(1, cells + 1), repeat=len(values))
                many = sum(is_naming(rows, dict(zip(values, way))) for way in ways)
                self.assertEqual(count_namings(source, plan, cells), many)
                self.assertEqual(many > 0, naming(source, plan, cells) is not None)

    def test_plans_with_empty_hours(self):
        self.assertEqual(count_namings(T, [[], [0], [], [1], [2]], 3), 72)
        self.assertEqual(count_namings(T, [[], [0], [], [1], [2]], 1), 0)

    def test_many_cells(self):
        source = source_of("read a / read b / read c / x = f(a, b, c) / tell x / tell a")
        self.assertEqual(count_namings(source, [[0]], 999), 999 * 998 * 997 * 998)


class Faults(unittest.TestCase):
    def test_kind(self):
        wrong = [thing for thing in NO_STRINGS] + ["", T, [1, 2, 1, 2, 2], list(RIGHT.items()), {**RIGHT, 5: 3}]
        wrong += [{value: cell for value, cell in RIGHT.items() if value != left} for left in RIGHT]
        wrong += [{**RIGHT, 3: thing} for thing in (0, -1, 1000, True, None, "2", [2], {}, T)]
        wrong += [{False: 1, 1: 2, 2: 1, 3: 2, 4: 2}, {0: 1, True: 2, 2: 1, 3: 2, 4: 2}, {str(k): 1 for k in range(5)}]
        wrong += [{0: 1, 1: 2, 2: 1, 3: 2, 5: 2}, {0: 1, 1: 2, 2: 1, 3: 2, (4,): 2}, {0: 1, 1: 2, 2: 1, 3: 2, None: 2}]
        for thing in wrong:
            self.assertEqual(naming_fault(T, T_PLAN, thing), ("kind",), thing)

    def test_shared(self):
        self.assertEqual(naming_fault(T, T_PLAN, {**RIGHT, 1: 1}), ("shared", 0, 1))
        self.assertEqual(naming_fault(T, T_PLAN, {**RIGHT, 3: 1}), ("shared", 2, 3))
        self.assertEqual(naming_fault(T, T_PLAN, {**RIGHT, 4: 1}), ("shared", 2, 4))
        self.assertEqual(naming_fault(T, T_PLAN, {value: 7 for value in RIGHT}), ("shared", 0, 1))
        self.assertIsNone(naming_fault(T, T_PLAN, {4: 999, 3: 999, 2: 1, 1: 998, 0: 999}))

    def test_all_dicts_of_small_sources(self):
        for source, plan in sources_and_plans(374, 40, lines=7):
            values = list(lives(source, plan))
            if len(values) > 4:
                continue
            rows = waiting(source, plan)
            for way in itertools.product((1, 2, 3), repeat=len(values)):
                thing = dict(zip(values, way))
                shared = [pair for pair in itertools.combinations(values, 2) if thing[pair[0]] == thing[pair[1]]
                          and any(pair[0] in row and pair[1] in row for row in rows)]
                wanted = ("shared",) + shared[0] if shared else None
                self.assertEqual(naming_fault(source, plan, thing), wanted)


class Errors(unittest.TestCase):
    def test_bad_cells(self):
        for ask in (naming, count_namings):
            for thing in [-1, 1000, True, False, None, "2", [2], (2,), {}, T, 10 ** 9]:
                with self.assertRaises(BadCells) as caught:
                    ask(T, T_PLAN, thing)
                self.assertIs(caught.exception.thing, thing)
            self.assertIn(ask(T, T_PLAN, 0), (None, 0))
            ask(T, T_PLAN, 999)

    def test_in_order(self):
        for ask in (naming, count_namings):
            with self.assertRaises(BadSource):
                ask(None, None, None)
            with self.assertRaises(BadPlan):
                ask(T, [[0]], None)

    def test_nothing_is_changed(self):
        thing = dict(RIGHT)
        plan = [[0], [1], [2]]
        naming_fault(T, plan, thing)
        naming(T, plan, 3)
        self.assertEqual((thing, plan), (RIGHT, T_PLAN))


if __name__ == "__main__":
    unittest.main()
