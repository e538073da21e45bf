"""[55], [56]: programs run by boxes, at once and hour by hour."""

import random
import unittest

from twoslots.errors import BadBox, BadProgram, NoCell, NoHour, NotSound
from twoslots.partings import values_told
from twoslots.programs import Program
from twoslots.running import Run, run
from twoslots.sources import Source
from twoslots.sourcetexts import read_source

from tests.programsamples import NARROW, P, fault_by_hand, program_of, random_program, random_programs
from tests.samples import NO_STRINGS, OBJECTS, T_TEXT

BOX = ([("f", [1, 2], 5), ("g", [5, 5], 7)], [("a", 1), ("b", 2)], 0)
BAD_BOXES = [thing for thing in NO_STRINGS] + ["", ([], []), ([], [], True), ([], [], None), ([("f", [1], 1), ("f", (1,), 2)], [], 0),
                                               ([], [("a", 1), ("a", 2)], 0), ([("read", [], 1)], [], 0), P]


def random_box(rng):
    rows = {}
    for _ in range(rng.randint(0, 25)):
        name, many = rng.choice([("f", 1), ("f", 2), ("g", 2), ("k", 0)])
        rows[name, tuple(rng.randint(0, 3) for _ in range(many))] = rng.randint(0, 3)
    starts = [(name, rng.randint(0, 3)) for name in rng.sample("abcd", rng.randint(0, 4))]
    return ([(name, list(values), value) for (name, values), value in rows.items()], starts, rng.randint(0, 3))


def values_by_hand(program, box):
    """Behind the begin and each hour the dict from cells to pairs (value, who wrote it)."""
    results = {(name, tuple(values)): value for name, values, value in box[0]}
    starts = dict(box[1])
    states = [{cell: (starts.get(name, box[2]), None) for name, cell in program.reads()}]
    for at, hour in enumerate(program.hours(), 1):
        held = dict(states[-1])
        for slot, (cell, name, cells) in enumerate(hour, 1):
            values = tuple(states[-1][part][0] for part in cells)
            held[cell] = (results.get((name, values), box[2]), (at, slot))
        states.append(held)
    return states


class AtOnce(unittest.TestCase):
    def test_the_example(self):
        self.assertEqual(run(P, BOX), [("z", 0), ("x", 5)])
        self.assertEqual(run(NARROW, ([("f", (1, 2), 5), ["g", [5, 5], 7], ["h", [7, 5], 9]], (("a", 1), ["b", 2]), 0)),
                         [("z", 9), ("x", 5)])

    def test_what_the_source_tells(self):
        rng = random.Random(441)
        source = read_source(T_TEXT)
        for _ in range(200):
            box = random_box(rng)
            self.assertEqual(run(P, box), values_told(source, box))
            self.assertEqual(run(NARROW, box), values_told(source, box))

    def test_random_programs(self):
        rng = random.Random(442)
        for program in random_programs(443, 200):
            box = random_box(rng)
            last = values_by_hand(program, box)[-1]
            self.assertEqual(run(program, box), [(name, last[cell][0]) for name, cell in program.tells()])

    def test_errors_in_order(self):
        wrong = program_of("1 = f(1)")
        for thing in OBJECTS + [Source([])]:
            with self.assertRaises(BadProgram) as caught:
                run(thing, None)
            self.assertIs(caught.exception.thing, thing)
        for thing in BAD_BOXES:
            with self.assertRaises(NotSound) as caught:
                run(wrong, thing)
            self.assertEqual(caught.exception.fault, (1, 1, "empty", 1))
            with self.assertRaises(BadBox) as caught:
                run(P, thing)
            self.assertIs(caught.exception.thing, thing)


class HourByHour(unittest.TestCase):
    def test_the_example(self):
        one = Run(P, BOX)
        self.assertEqual((one.hour(), one.cells(), one.told()), (0, {1: 1, 2: 2}, None))
        self.assertEqual(one.step(), [(3, 5)])
        self.assertEqual((one.hour(), one.cells(), one.told()), (1, {1: 1, 2: 2, 3: 5}, None))
        self.assertEqual((one.made_by(3), one.made_by(1)), ((1, 1), None))
        self.assertEqual(one.step(), [(4, 7)])
        self.assertEqual(one.step(), [(4, 0)])
        self.assertEqual((one.hour(), one.told(), one.made_by(4)), (3, [("z", 0), ("x", 5)], (3, 1)))
        self.assertEqual(one.back(), 3)
        self.assertEqual((one.hour(), one.told(), one.cells(), one.made_by(4)), (2, None, {1: 1, 2: 2, 3: 5, 4: 7}, (2, 1)))

    def test_written_by_cells(self):
        one = Run(program_of("read a 9 / 8 = f(9) | 2 = k() / - / 8 = k()"), ([("f", [1], 4)], [("a", 1)], 6))
        self.assertEqual(one.step(), [(2, 6), (8, 4)])
        self.assertEqual((one.made_by(8), one.made_by(2), one.made_by(9)), ((1, 1), (1, 2), None))
        self.assertEqual((one.step(), one.hour()), ([], 2))
        self.assertEqual(one.step(), [(8, 6)])
        self.assertEqual(list(one.cells()), [2, 8, 9])

    def test_both_instructions_read_what_stood_at_the_begin(self):
        one = Run(program_of("read a 1 / read b 2 / 1 = f(2) | 2 = f(1)"), ([("f", [1], 11), ("f", [2], 12)], [("a", 1), ("b", 2)], 0))
        self.assertEqual(one.step(), [(1, 12), (2, 11)])

    def test_random_programs(self):
        rng = random.Random(444)
        for program in random_programs(445, 150):
            box = random_box(rng)
            states = values_by_hand(program, box)
            one = Run(program, box)
            for hour, held in enumerate(states):
                if hour:
                    written = sorted((cell, held[cell][0]) for cell, _, _ in program.hours()[hour - 1])
                    self.assertEqual(one.step(), written)
                self.assertEqual(list(one.cells().items()), [(cell, held[cell][0]) for cell in sorted(held)])
                self.assertEqual({cell: one.made_by(cell) for cell in held}, {cell: held[cell][1] for cell in held})
                self.assertEqual(one.told(), run(program, box) if hour == len(states) - 1 else None)
                self.assertEqual(one.hour(), hour)

    def test_an_hour_whole_or_not_at_all(self):
        stops = 0
        for program in random_programs(446, 300, right=False):
            fault = fault_by_hand(program)
            one = Run(program, BOX)
            many = len(program.hours())
            for hour in range(1, (min(fault[0] - 1, many) if fault else many) + 1):
                one.step()
            if fault is None:
                self.assertEqual(one.told(), run(program, BOX))
                continue
            stops += 1
            held = one.cells()
            for _ in range(2):
                with self.assertRaises(NotSound) as caught:
                    one.step() if fault[0] <= many else one.told()
                self.assertEqual(caught.exception.fault, fault)
                self.assertEqual((one.hour(), one.cells()), (min(fault[0] - 1, many), held))
            if fault[0] <= many:
                self.assertIsNone(one.told())
        self.assertGreater(stops, 100)

    def test_no_hour_left(self):
        for program, hours in [(P, 3), (Program([], [], []), 0), (program_of("- / -"), 2)]:
            one = Run(program, BOX)
            for _ in range(hours):
                one.step()
            for _ in range(2):
                with self.assertRaises(NoHour) as caught:
                    one.step()
                self.assertEqual(caught.exception.hour, hours + 1)
                self.assertEqual(one.hour(), hours)

    def test_told_at_the_begin_of_no_hours(self):
        self.assertEqual(Run(program_of("read a 5 / tell x 5 / tell y 5"), BOX).told(), [("x", 1), ("y", 1)])
        with self.assertRaises(NotSound) as caught:
            Run(program_of("read a 5 / tell x 5 / tell y 4"), BOX).told()
        self.assertEqual(caught.exception.fault, (1, 2, "empty", 4))

    def test_back(self):
        rng = random.Random(447)
        for program in random_programs(448, 60):
            box = random_box(rng)
            one = Run(program, box)
            seen = [one.cells()]
            for _ in program.hours():
                one.step()
                seen.append(one.cells())
            for hour in range(len(program.hours()), 0, -1):
                self.assertEqual(one.back(), hour)
                self.assertEqual((one.cells(), one.hour()), (seen[hour - 1], hour - 1))
            self.assertIsNone(one.back())
            self.assertEqual(one.hour(), 0)
            for hour in range(1, len(seen)):
                one.step()
                self.assertEqual(one.cells(), seen[hour])

    def test_no_cell(self):
        one = Run(P, BOX)
        for thing in [3, 4, 0, -1, 1000, True, False, None, "1", [1], (1,), {}, P, 10 ** 9]:
            with self.assertRaises(NoCell) as caught:
                one.made_by(thing)
            self.assertIs(caught.exception.thing, thing)
        one.step()
        self.assertEqual(one.made_by(3), (1, 1))
        one.back()
        with self.assertRaises(NoCell):
            one.made_by(3)

    def test_copies_go_on_by_themselves(self):
        one = Run(P, BOX)
        one.step()
        other = one.copy()
        self.assertEqual((other, other.hour(), other.cells()), (one, 1, one.cells()))
        other.step()
        self.assertEqual((one.hour(), other.hour()), (1, 2))
        self.assertEqual(other.back(), 2)
        self.assertEqual(other.back(), 1)
        self.assertEqual((one.hour(), other.hour(), other.cells()), (1, 0, {1: 1, 2: 2}))
        one.step()
        self.assertEqual((one.made_by(4), other.copy().hour()), ((2, 1), 0))


class Equality(unittest.TestCase):
    def test_equal_by_program_box_and_hour(self):
        one = Run(P, BOX)
        tuples = (tuple((name, tuple(values), value) for name, values, value in BOX[0]), tuple(BOX[1]), 0)
        lists = [[["f", [1, 2], 5], ["g", [5, 5], 7]], [["a", 1], ["b", 2]], 0]
        self.assertTrue(one == Run(P, tuples) and one == Run(P, lists))
        again = Program(tuple(P.reads()), P.hours(), P.tells())
        self.assertEqual(one, Run(again, BOX))
        self.assertNotEqual(one, Run(NARROW, BOX))
        self.assertNotEqual(one, Run(P, (BOX[0][::-1], BOX[1], 0)))
        self.assertNotEqual(one, Run(P, (BOX[0], BOX[1][::-1], 0)))
        self.assertNotEqual(one, Run(P, (BOX[0], BOX[1], 1)))
        self.assertNotEqual(one, Run(P, (BOX[0] + [("u", [], 1)], BOX[1], 0)))
        other = Run(P, BOX)
        other.step()
        self.assertNotEqual(one, other)
        one.step()
        self.assertEqual(one, other)
        other.back()
        self.assertEqual(other, Run(P, BOX))

    def test_equal_nothing_else(self):
        for thing in OBJECTS + [P, BOX, Source([])]:
            self.assertFalse(Run(P, BOX) == thing)
            self.assertTrue(Run(P, BOX) != thing)

    def test_what_is_passed_is_copied_and_what_is_told_is_new(self):
        box = ([["f", [1, 2], 5]], [["a", 1], ["b", 2]], 0)
        one = Run(P, box)
        box[0][0][1].append(3)
        box[0].append(("g", [5, 5], 7))
        box[1].clear()
        one.cells().clear()
        one.step().clear()
        one.step()
        one.cells()[4] = 9
        self.assertEqual(one.cells(), {1: 1, 2: 2, 3: 5, 4: 0})
        one.step()
        one.told().clear()
        self.assertEqual(one.told(), [("z", 0), ("x", 5)])

    def test_errors(self):
        for thing in OBJECTS + [Source([])]:
            with self.assertRaises(BadProgram) as caught:
                Run(thing, None)
            self.assertIs(caught.exception.thing, thing)
        for thing in BAD_BOXES:
            for program in (P, program_of("1 = f(1)")):
                with self.assertRaises(BadBox) as caught:
                    Run(program, thing)
                self.assertIs(caught.exception.thing, thing)

    def test_unsound_programs_can_stand_ahead_of_the_first_hour(self):
        one = Run(random_program(random.Random(449), right=False), BOX)
        self.assertEqual(one.hour(), 0)


if __name__ == "__main__":
    unittest.main()
