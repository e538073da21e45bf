"""[36], [44], [53]: rows, plans, chains, lives and namings asked at the limits that the document tells."""

import itertools
import random
import unittest

from twoslots.begun import begun_fault, hours_left, next_hours
from twoslots.cells import crowded_hour, fewest_cells, lives, waiting
from twoslots.chains import best_chain, chain_against, chain_fault, chain_hours
from twoslots.namings import count_namings, naming, naming_fault
from twoslots.needed import order_of
from twoslots.orders import Order
from twoslots.plancounts import count_plans, plan_at, plan_number
from twoslots.plans import best_plan, empty_slots, fewest_hours, plan_fault, plan_within
from twoslots.renamed import gone_pairs, renamed
from twoslots.rows import levels_of, order_of_row, rearranged, turned_pair
from twoslots.sources import Source

from tests.planoracles import mixed


def great_order(seed, many, count):
    rng = random.Random(seed)
    every = [sorted(rng.sample(range(many), 2)) for _ in range(count)]
    return Order(many, mixed(rng, many, every))


class Rows(unittest.TestCase):
    def test_sixty_instructions(self):
        rng = random.Random(381)
        for cells in (5, 40, 800):
            row = [(rng.randint(1, cells), "f", tuple(rng.randint(1, cells) for _ in range(rng.randint(0, 14))))
                   for _ in range(60)]
            order = order_of_row(row)
            self.assertEqual(sum(len(level) for level in levels_of(row)), 60)
            mine = renamed(row)
            self.assertEqual(len({cell for cell, _, _ in mine}), 60)
            gone = gone_pairs(row)
            self.assertEqual(len(gone), len([1 for one, other in gone if one in order.ahead(other)]))
            self.assertLessEqual(len(levels_of(mine)), len(levels_of(row)))
            self.assertIsNone(turned_pair(row, row))

    def test_reading_nearly_nine_hundred_cells(self):
        cells = list(range(1, 900))
        row = [(900 + at, "f", tuple(cells[15 * at:15 * at + 15])) for at in range(60)]
        self.assertEqual([cell for cell, _, _ in renamed(row)], list(range(900, 960)))
        self.assertEqual(gone_pairs(row), [])

    def test_rearranged_of_twenty_four(self):
        row = [(at, "f", ()) for at in range(1, 25)]
        rows = rearranged(row, row[::-1])
        self.assertEqual(len(rows), 24 * 23 // 2 + 1)
        self.assertEqual(rows[-1], row[::-1])


class Plans(unittest.TestCase):
    def test_two_hundred_numbers(self):
        for count in (0, 150, 300, 600, 2500):
            order = great_order(382, 200, count)
            plan = best_plan(order)
            chain = best_chain(order)
            hours = fewest_hours(order)
            self.assertIsNone(plan_fault(order, plan))
            self.assertIsNone(chain_fault(order, chain))
            self.assertEqual((len(plan), chain_hours(order, chain)), (hours, hours))
            self.assertEqual(empty_slots(order), 2 * hours - 200)
            self.assertEqual((plan_within(order, 1000), chain_against(order, 1000)), (plan, None))
            self.assertEqual((plan_within(order, hours - 1), chain_against(order, hours - 1)), (None, chain))
            for many in (0, 20, hours):
                begun = plan[:many]
                self.assertIsNone(begun_fault(order, begun))
                self.assertEqual(hours_left(order, begun), hours - many)
            self.assertEqual(plan_fault(order, plan[:-1])[0], "lacks")

    def test_next_hours_of_forty(self):
        for count in (0, 20, 40, 80):
            order = great_order(383, 40, count)
            hours = fewest_hours(order)
            told = next_hours(order, [], hours)
            self.assertIn(best_plan(order)[0], told)
            for hour in told[::50]:
                self.assertLess(hours_left(order, [hour]), hours)
            self.assertEqual(next_hours(order, [], hours - 1), [])
            free = order.levels()[0]
            every = sorted([[one] for one in free] + [list(pair) for pair in itertools.combinations(free, 2)])
            self.assertEqual(next_hours(order, [], 1000), every)

    def test_plans_of_twelve(self):
        for count in (0, 4, 8, 16):
            order = great_order(384, 12, count)
            many = count_plans(order)
            for number in sorted({0, many // 2, many - 1}):
                self.assertEqual(plan_number(order, plan_at(order, number)), number)


class Cells(unittest.TestCase):
    def great_source(self, reads, gives, width, seed):
        rng = random.Random(seed)
        known = [f"r{at}" for at in range(reads)]
        lines = [("read", name) for name in known]
        for at in range(gives):
            parts = rng.sample(known[-width:], min(len(known[-width:]), rng.randint(1, 3)))
            lines.append(("give", f"x{at}", (f"f{at}", *parts)))
            known.append(f"x{at}")
        return Source(lines + [("tell", name) for name in known[reads:]])

    def test_sixty_values(self):
        for reads, gives, width in [(10, 50, 60), (30, 30, 60), (0, 0, 1), (1, 59, 3), (59, 1, 60)]:
            source = self.great_source(reads, gives, width, 385)
            for plan in (best_plan(order_of(source)), [[thing] for thing in range(order_of(source).many())]):
                self.assertEqual(len(lives(source, plan)), reads + gives)
                rows = waiting(source, plan)
                fewest = fewest_cells(source, plan)
                self.assertEqual(len(rows[crowded_hour(source, plan)]), fewest)
                told = naming(source, plan, fewest)
                self.assertIsNone(naming_fault(source, plan, told))
                self.assertGreater(count_namings(source, plan, fewest), 0)
                self.assertEqual(len(naming(source, plan, 999)), reads + gives)
                if fewest:
                    self.assertIsNone(naming(source, plan, fewest - 1))
                    self.assertEqual(count_namings(source, plan, fewest - 1), 0)


if __name__ == "__main__":
    unittest.main()
