"""[11]: programs."""

import unittest

from twoslots.errors import BadHours, BadReads, BadTells
from twoslots.programs import Program
from twoslots.sources import Source

from tests.samples import OBJECTS, P_HOURS, P_READS, P_TELLS, function_of_somebody
from tests.test_sources import lists_throughout, tuples_throughout

NO_NAMES = ["", "A", "1a", "abcdefghi", "read", "tell", "a b", 1, None, True, ["a"], ("a",), "a\n", "\xe9"]
NO_CELLS = [0, -1, 1000, 10 ** 9, True, False, None, "1", [1], (1,), {}, function_of_somebody]
NO_PAIRS = [("a",), ("a", 1, 1), ["a"], (1, "a"), "a1", ("a", (1,)), (("a",), 1), {"a": 1}]


class Programs(unittest.TestCase):
    def bad(self, error, index, *parts):
        with self.assertRaises(error) as caught:
            Program(*parts)
        self.assertEqual(caught.exception.index, index, parts)

    def test_told_parts(self):
        program = Program(P_READS, P_HOURS, P_TELLS)
        self.assertEqual((program.reads(), program.hours(), program.tells()), (P_READS, P_HOURS, P_TELLS))
        empty = Program([], [], [])
        self.assertEqual((empty.reads(), empty.hours(), empty.tells()), ([], [], []))

    def test_parameters_by_name(self):
        self.assertEqual(Program(tells=P_TELLS, hours=P_HOURS, reads=P_READS), Program(P_READS, P_HOURS, P_TELLS))

    def test_lists_and_tuples_alike(self):
        for kind in (lists_throughout, tuples_throughout):
            program = Program(kind(P_READS), kind(P_HOURS), kind(P_TELLS))
            self.assertEqual(program, Program(P_READS, P_HOURS, P_TELLS))
            self.assertEqual((program.reads(), program.hours(), program.tells()), (P_READS, P_HOURS, P_TELLS))
            self.assertIsInstance(program.reads(), list)
            self.assertIsInstance(program.reads()[0], tuple)
            self.assertIsInstance(program.hours()[0], list)
            self.assertIsInstance(program.hours()[0][0], tuple)
            self.assertIsInstance(program.hours()[0][0][2], tuple)
            self.assertIsInstance(program.tells()[0], tuple)

    def test_hours(self):
        hours = [[], [(999, "f", ())], [(1, "f", (1, 1, 1)), (1, "f", (1,))], []]
        self.assertEqual(Program([], hours, []).hours(), hours)

    def test_nothing_more_is_asked(self):
        program = Program([("a", 5)], [[(1, "f", (7,)), (1, "g", ())]], [("z", 9), ("a", 9), ("b", 5)])
        self.assertEqual(program.tells(), [("z", 9), ("a", 9), ("b", 5)])

    def test_no_lists(self):
        for thing in OBJECTS + [Source([]), Program([], [], [])]:
            if not isinstance(thing, (list, tuple)):
                self.bad(BadReads, 0, thing, [], [])
                self.bad(BadHours, 0, [], thing, [])
                self.bad(BadTells, 0, [], [], thing)

    def test_the_order_of_errors(self):
        self.bad(BadReads, 0, None, None, None)
        self.bad(BadReads, 1, [("a", 1), None], [None], [None])
        self.bad(BadHours, 0, [("a", 1)], [None], [None])
        self.bad(BadTells, 0, [("a", 1)], [[]], [None])

    def test_pairs(self):
        wrong = [(name, 3) for name in NO_NAMES] + [("c", cell) for cell in NO_CELLS] + NO_PAIRS
        wrong += [thing for thing in OBJECTS] + [Program([], [], [])]
        for thing in wrong:
            self.bad(BadReads, 2, [("a", 1), ("b", 2), thing, None], [], [])
            self.bad(BadTells, 2, [], [], [("a", 1), ("b", 2), thing, None])

    def test_unlike_names_and_cells(self):
        self.bad(BadReads, 1, [("a", 1), ("a", 2)], [], [])
        self.bad(BadReads, 2, [("a", 1), ("b", 2), ("c", 1)], [], [])
        self.bad(BadTells, 1, [], [], [("a", 1), ("a", 2)])
        self.assertEqual(len(Program([], [], [("a", 1), ("b", 1)]).tells()), 2)

    def test_no_hours(self):
        good = (1, "f", (1, 2))
        instructions = [(cell, "f", (1,)) for cell in NO_CELLS]
        instructions += [(1, name, (1,)) for name in NO_NAMES]
        instructions += [(1, "f", (1, cell)) for cell in NO_CELLS]
        instructions += [(1, "f"), (1, "f", (1,), ()), (1, "f", 1), (1, "f", None), (1, "f", "1"), (1, "f", {})]
        instructions += OBJECTS
        for thing in instructions:
            self.bad(BadHours, 1, [], [[good], [thing], [None]], [])
            self.bad(BadHours, 1, [], [[good], [good, thing]], [])
        for thing in OBJECTS + [good, [good, good, good], Program([], [], []), {1: good}]:
            if thing not in ([], ()):
                self.bad(BadHours, 2, [], [[good], [], thing], [])

    def test_equality(self):
        program = Program(P_READS, P_HOURS, P_TELLS)
        self.assertTrue(program == Program(P_READS, P_HOURS, P_TELLS))
        self.assertFalse(program != Program(P_READS, P_HOURS, P_TELLS))
        others = [Program(P_READS[::-1], P_HOURS, P_TELLS), Program(P_READS, P_HOURS + [[]], P_TELLS),
                  Program(P_READS, P_HOURS, P_TELLS[::-1]), Program([], [], []), Source([])]
        for thing in OBJECTS + others + [(P_READS, P_HOURS, P_TELLS)]:
            self.assertFalse(program == thing)
            self.assertTrue(program != thing)

    def test_what_is_passed_is_copied(self):
        cells = [1, 2]
        instruction = [3, "f", cells]
        hour = [instruction]
        hours = [hour]
        pair = ["a", 1]
        reads = [pair]
        tell = ["z", 3]
        tells = [tell]
        program = Program(reads, hours, tells)
        cells.append(7)
        instruction[1] = "g"
        hour.append(instruction)
        hours.append([])
        pair[0] = "b"
        reads.append(("c", 9))
        tell[1] = 4
        tells.clear()
        self.assertEqual(program, Program([("a", 1)], [[(3, "f", (1, 2))]], [("z", 3)]))

    def test_what_is_told_is_new(self):
        program = Program(P_READS, P_HOURS, P_TELLS)
        program.reads().clear()
        program.hours().pop()
        program.hours()[0].clear()
        program.tells().append(None)
        self.assertEqual(program, Program(P_READS, P_HOURS, P_TELLS))
        hours = program.hours()
        self.assertIsNot(hours[0], program.hours()[0])


if __name__ == "__main__":
    unittest.main()
