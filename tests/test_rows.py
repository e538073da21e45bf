"""[32], [33], [34]: rows, what comes of them by exchanges, and papers against that."""

import itertools
import random
import unittest

from twoslots.errors import BadRow
from twoslots.orders import Order
from twoslots.rows import levels_of, order_of_row, rearranged, turned_pair
from twoslots.sources import Source

from tests.samples import NO_STRINGS, OBJECTS, function_of_somebody
from tests.test_listings import all_listings

R = [(3, "f", (1, 2)), (4, "f", (1, 2)), (5, "g", (3, 4)), (3, "h", (5, 3))]


def do_clash(one, other):
    return bool({one[0]} & ({other[0]} | set(other[2])) or {other[0]} & set(one[2]))


def random_row(rng, many, cells=4):
    return [(rng.randint(1, cells), rng.choice("fg"),
             tuple(rng.randint(1, cells) for _ in range(rng.choice([0, 1, 1, 2])))) for _ in range(many)]


def random_rows(seed, many, most=5, cells=4):
    rng = random.Random(seed)
    return [random_row(rng, rng.randint(0, most), cells) for _ in range(many)]


def neighbours(row):
    """All rows that are one exchange off, of two that do not clash."""
    for at in range(len(row) - 1):
        if not do_clash(row[at], row[at + 1]):
            yield row[:at] + (row[at + 1], row[at]) + row[at + 2:]


def distances(row):
    """From each row that comes of a row to how many exchanges lead there."""
    found = {tuple(row): 0}
    queue = [tuple(row)]
    for one in queue:
        for other in neighbours(one):
            if other not in found:
                found[other] = found[one] + 1
                queue.append(other)
    return found


def terms_in_cells(row):
    """What lies in each cell in the end, as nested tuples."""
    held = {cell: ("start", cell) for cell in range(10)}
    for cell, operation, cells in row:
        held[cell] = (operation,) + tuple(held[part] for part in cells)
    return held


class OrdersOfRows(unittest.TestCase):
    def test_the_example(self):
        order = order_of_row(R)
        self.assertEqual(order.direct(), [(0, 2), (1, 2), (2, 3)])
        self.assertEqual(order, Order(4, [(0, 2), (1, 2), (2, 3)]))

    def test_which_clash(self):
        for one, other, clash in [((1, "f", ()), (1, "f", ()), True), ((1, "f", (2,)), (2, "g", ()), True),
                                  ((2, "g", ()), (1, "f", (3, 2)), True), ((1, "f", (3,)), (2, "g", (3,)), False),
                                  ((1, "f", (1,)), (2, "f", (2,)), False), ((1, "f", ()), (2, "f", ()), False)]:
            self.assertEqual(order_of_row([one, other]), Order(2, [(0, 1)] if clash else []))
            self.assertEqual(order_of_row([other, one]), Order(2, [(0, 1)] if clash else []))

    def test_each_listing_leaves_the_same(self):
        for row in random_rows(301, 80):
            order = order_of_row(row)
            for listing in all_listings(order):
                self.assertEqual(terms_in_cells([row[at] for at in listing]), terms_in_cells(row))

    def test_no_instructions(self):
        self.assertEqual(order_of_row([]), Order(0, []))
        self.assertEqual(levels_of(()), [])
        self.assertEqual(rearranged([], ()), [[]])
        self.assertIsNone(turned_pair([], []))


class Levels(unittest.TestCase):
    def test_the_example(self):
        self.assertEqual(levels_of(R), [[R[0], R[1]], [R[2]], [R[3]]])
        self.assertEqual(levels_of([R[1], R[0]] + R[2:]), levels_of(R))
        self.assertNotEqual(levels_of(R[:2] + [R[3], R[2]]), levels_of(R))

    def test_lists_for_tuples(self):
        self.assertEqual(levels_of(tuple([cell, operation, list(cells)] for cell, operation, cells in R)), levels_of(R))

    def test_levels_are_a_name(self):
        """They are alike just for the rows that come of one another."""
        for row in random_rows(302, 60):
            come = distances(row)
            for other in set(itertools.permutations(row)):
                self.assertEqual(levels_of(other) == levels_of(row), other in come, (row, other))

    def test_levels_are_those_of_the_order(self):
        for row in random_rows(303, 60, most=9):
            levels = order_of_row(row).levels()
            self.assertEqual(levels_of(row), [sorted(row[at] for at in level) for level in levels])


class Rearranged(unittest.TestCase):
    def check(self, row, other, many):
        """A list of many exchanges; None for many just if there is a paper."""
        rows = rearranged(row, other)
        paper = turned_pair(row, other)
        self.assertEqual((rows is None) + (paper is None), 1)
        self.assertEqual(rows is None, many is None, (row, other))
        if rows is None:
            return
        self.assertEqual((rows[0], rows[-1], len(rows)), (list(row), list(other), many + 1))
        for one, next_one in itertools.pairwise(rows):
            self.assertIn(tuple(next_one), list(neighbours(tuple(one))))
        self.assertEqual(rearranged(tuple(row), [list(part) for part in other]), rows)

    def test_the_example(self):
        self.assertEqual(rearranged(R, [R[1], R[0]] + R[2:]), [R, [R[1], R[0]] + R[2:]])
        self.assertEqual(turned_pair(R, R[:2] + [R[3], R[2]]), ("turned", 2, 3))
        self.assertIsNone(rearranged(R, R[:2] + [R[3], R[2]]))
        self.assertIsNone(turned_pair(R, R))
        self.assertEqual(rearranged(R, R), [R])

    def test_small_rows_against_all_ways_to_place_them(self):
        for row in random_rows(304, 70):
            come = distances(row)
            for other in set(itertools.permutations(row)):
                self.check(row, list(other), come.get(other))

    def test_the_first_turned_pair(self):
        for row in random_rows(305, 60):
            come = distances(row)
            for other in set(itertools.permutations(row)) - set(come):
                self.assertEqual(turned_pair(row, other), self.first_turned(row, list(other)))

    def first_turned(self, row, other):
        for one, mine in enumerate(row):
            for two in range(one + 1, len(row)):
                places = [self.place(row, at, other) for at in (one, two)]
                if do_clash(mine, row[two]) and places[0] > places[1]:
                    return ("turned", one, two)

    def place(self, row, at, other):
        count = row[:at].count(row[at])
        return [place for place, thing in enumerate(other) if thing == row[at]][count]

    def test_alike_instructions_are_counted_one_by_one(self):
        one, two, three = (1, "f", ()), (2, "g", (1,)), (3, "h", ())
        self.assertEqual(turned_pair([one, two, one], [one, one, two]), ("turned", 1, 2))
        self.assertEqual(turned_pair([one, two, one], [two, one, one]), ("turned", 0, 1))
        self.assertEqual(turned_pair([one, one, two, one], [one, one, one, two]), ("turned", 2, 3))
        self.assertEqual(turned_pair([one, two, one, one], [one, one, two, one]), ("turned", 1, 2))
        self.assertIsNone(turned_pair([one, three, one, one], [one, one, one, three]))
        self.assertEqual(len(rearranged([one, three, one, three], [one, one, three, three])), 2)
        self.assertEqual(len(rearranged([three, one, one, three], [one, three, three, one])), 3)

    def test_lacks(self):
        one, two, three = (1, "f", ()), (2, "g", (1,)), (1, "g", ())
        self.assertEqual(turned_pair([two, one], [one]), ("lacks", two))
        self.assertEqual(turned_pair([one], [two, one]), ("lacks", two))
        self.assertEqual(turned_pair([one, one], [one]), ("lacks", one))
        self.assertEqual(turned_pair([two, three], [one, two]), ("lacks", one))
        self.assertEqual(turned_pair([two, [2, "g", [1, 1]]], [[2, "g", [1, 1]]]), ("lacks", two))
        self.assertEqual(turned_pair([], [[7, "k", []]]), ("lacks", (7, "k", ())))
        self.assertIsNone(rearranged([two, one], [one]))
        # What lacks is told ahead of what is turned.
        self.assertEqual(turned_pair([one, two, three], [two, one, (9, "z", ())]), ("lacks", three))

    def test_as_many_rows_as_pairs_turned_and_one(self):
        rng = random.Random(306)
        for _ in range(30):
            row = [(cell, "f", ()) for cell in range(1, 8)]
            other = rng.sample(row, 7)
            turned = sum(other.index(one) > other.index(two) for one, two in itertools.combinations(row, 2))
            self.check(row, other, turned)

    def test_rows_told_are_new(self):
        row = [list(part) for part in R]
        rows = rearranged(row, R)
        rows[0].clear()
        self.assertEqual(row, [list(part) for part in R])
        self.assertEqual(rearranged(R, R), [R])


class BadRows(unittest.TestCase):
    def test_bad_row(self):
        asks = [order_of_row, levels_of, lambda row: rearranged(row, None), lambda row: turned_pair(row, None),
                lambda row: rearranged(R, row), lambda row: turned_pair(R, row)]
        wrong = [None, (), (1, "f"), (1, "f", (), ()), (0, "f", ()), (1000, "f", ()), (True, "f", ()), (1, "read", ()),
                 (1, "F", ()), (1, 1, ()), (1, "f", None), (1, "f", (True,)), (1, "f", (0,)), (1, "f", (1000,)),
                 (1, "f", ("1",)), ("1", "f", ()), [R[0]], {}, "f", 1, (1, "f", ((1,),)), function_of_somebody]
        for ask in asks:
            for thing in wrong:
                self.bad(ask, [R[0], thing, thing], 1)
            for thing in [row for row in NO_STRINGS if not isinstance(row, (list, tuple))] + ["", "f", Source([])]:
                self.bad(ask, thing, 0)
            self.bad(ask, ["f"], 0)

    def bad(self, ask, row, index):
        with self.assertRaises(BadRow) as caught:
            ask(row)
        self.assertEqual(caught.exception.index, index, row)

    def test_row_ahead_of_other(self):
        for ask in (rearranged, turned_pair):
            self.bad(lambda row: ask(row, [1]), [R[0], 2], 1)
            for thing in OBJECTS:
                self.bad(lambda row: ask([R[0], R[1], 2], row), thing, 2)


if __name__ == "__main__":
    unittest.main()
