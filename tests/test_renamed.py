"""[35]: rows with a cell of its own for each result."""

import random
import unittest

from twoslots.errors import BadRow
from twoslots.orders import Order
from twoslots.renamed import gone_pairs, renamed
from twoslots.rows import order_of_row

from tests.test_rows import R, do_clash, random_rows, terms_in_cells


def renamed_by_hand(row):
    """As [35] tells it, by asking for each read cell who wrote it last."""
    stay = set()
    for at, instruction in enumerate(row):
        for cell in instruction[2]:
            if cell not in [other[0] for other in row[:at]]:
                stay.add(cell)
    free = [cell for cell in range(1, 999) if cell not in stay][:len(row)]
    rows = []
    for at, (_, operation, cells) in enumerate(row):
        read = []
        for cell in cells:
            wrote = [other for other in range(at) if row[other][0] == cell]
            read.append(free[wrote[-1]] if wrote else cell)
        rows.append((free[at], operation, tuple(read)))
    return rows


class Renamed(unittest.TestCase):
    def test_the_examples(self):
        self.assertEqual(renamed(R), R[:3] + [(6, "h", (5, 3))])
        self.assertEqual(gone_pairs(R), [])
        row = [(2, "f", (1,)), (1, "g", ()), (2, "h", ())]
        self.assertEqual(renamed(row), [(2, "f", (1,)), (3, "g", ()), (4, "h", ())])
        self.assertEqual(gone_pairs(row), [(0, 1), (0, 2)])
        self.assertEqual(len(order_of_row(row).levels()), 2)
        self.assertEqual(len(order_of_row(renamed(row)).levels()), 1)

    def test_cells_that_are_read_and_written_at_once(self):
        self.assertEqual(renamed([(1, "f", (1,)), (1, "f", (1,))]), [(2, "f", (1,)), (3, "f", (2,))])
        self.assertEqual(renamed([(7, "f", ()), (7, "g", (7, 3))]), [(1, "f", ()), (2, "g", (1, 3))])

    def test_the_least_cells_that_are_free(self):
        row = [[9, "f", [2, 4]], [9, "f", [1, 9]], [5, "g", []]]
        self.assertEqual(renamed(row), [(3, "f", (2, 4)), (5, "f", (1, 3)), (6, "g", ())])
        self.assertEqual(row[0], [9, "f", [2, 4]])

    def test_random_rows(self):
        for row in random_rows(311, 200, most=9):
            self.assertEqual(renamed(row), renamed_by_hand(row))
            self.assertEqual(renamed(tuple(row)), renamed(row))

    def test_it_does_the_same(self):
        """Each result is the same term as in the row, whatever lies in cells at first."""
        for row in random_rows(312, 100, most=8):
            mine = renamed(row)
            for many in range(1, len(row) + 1):
                done = terms_in_cells(row[:many])[row[many - 1][0]]
                self.assertEqual(done, self.made_by(mine[:many]))

    def made_by(self, row):
        held = {cell: ("start", cell) for cell in range(30)}
        for cell, operation, cells in row:
            held[cell] = (operation,) + tuple(held[part] for part in cells)
        return held[row[-1][0]]

    def test_gone_pairs(self):
        """Those that clash in the row, and of which one is not ahead of other in the renamed one."""
        lost = 0
        for row in random_rows(313, 150, most=8):
            order = order_of_row(renamed(row))
            pairs = [(one, other) for one in range(len(row)) for other in range(one + 1, len(row))
                     if do_clash(row[one], row[other]) and one not in order.ahead(other)]
            self.assertEqual(gone_pairs(row), pairs)
            lost += len(pairs)
        self.assertGreater(lost, 100)

    def test_what_clashes_and_is_ahead_through_others_is_not_gone(self):
        row = [(1, "f", ()), (2, "g", (1,)), (1, "h", (2,))]
        self.assertEqual(gone_pairs(row), [])
        self.assertEqual(gone_pairs(row[:2] + [(1, "h", ())]), [(0, 2), (1, 2)])

    def test_ahead_in_each_row_that_does_the_same(self):
        rng = random.Random(314)
        for row in random_rows(315, 80, most=7):
            least = order_of_row(renamed(row))
            many = len(row)
            for _ in range(5):
                # Other cells for the same results: all cells are mapped to others, one to one.
                cells = dict(zip(range(1, 5), rng.sample(range(1, 30), 4)))
                other = [(cells[cell], name, tuple(cells[part] for part in read)) for cell, name, read in row]
                order = order_of_row(other)
                for thing in range(many):
                    self.assertLessEqual(set(least.ahead(thing)), set(order.ahead(thing)))
            self.assertEqual(order_of_row(renamed(renamed(row))), least)

    def test_no_instructions(self):
        self.assertEqual((renamed([]), gone_pairs([])), ([], []))
        self.assertEqual(order_of_row(renamed(())), Order(0, []))

    def test_bad_row(self):
        for ask in (renamed, gone_pairs):
            for row, index in [(None, 0), (7, 0), ("f", 0), ({}, 0), ([R[0], (1, "f", (True,))], 1), ([R], 0),
                               (R + [(1000, "f", ())], 4), ([R[0], None, None], 1), (R + [R], 4)]:
                with self.assertRaises(BadRow) as caught:
                    ask(row)
                self.assertEqual(caught.exception.index, index)


if __name__ == "__main__":
    unittest.main()
