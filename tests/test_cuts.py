"""[58]: programs cut in two behind an hour."""

import random
import unittest

from twoslots.cuts import ahead_part, rest_part
from twoslots.errors import NoHour
from twoslots.faults import is_sound
from twoslots.programs import Program
from twoslots.running import run

from tests.programsamples import NARROW, P, program_of, random_programs
from tests.test_running import random_box


def alive_by_hand(program, hour):
    """The cells that are not empty behind an hour and are read or told later, ahead of being written."""
    full = {cell for _, cell in program.reads()} | {part[0] for row in program.hours()[:hour] for part in row}
    alive = []
    for cell in sorted(full):
        for row in program.hours()[hour:]:
            if any(cell in cells for _, _, cells in row):
                alive.append(cell)
                break
            if any(cell == written for written, _, _ in row):
                break
        else:
            if cell in [told for _, told in program.tells()]:
                alive.append(cell)
    return alive


class Cuts(unittest.TestCase):
    def test_the_example(self):
        self.assertEqual(ahead_part(NARROW, 1), program_of("read a 1 / read b 2 / 1 = f(1, 2) / tell c1 1"))
        self.assertEqual(rest_part(NARROW, 1), program_of("read c1 1 / 2 = g(1, 1) / 2 = h(2, 1) / tell z 2 / tell x 1"))

    def test_the_begin_and_the_end(self):
        self.assertEqual(ahead_part(NARROW, 0), program_of("read a 1 / read b 2 / tell c1 1 / tell c2 2"))
        self.assertEqual(rest_part(NARROW, 0).reads(), [("c1", 1), ("c2", 2)])
        self.assertEqual(rest_part(NARROW, 0).hours(), NARROW.hours())
        self.assertEqual(ahead_part(P, 3).tells(), [("c3", 3), ("c4", 4)])
        self.assertEqual(rest_part(P, 3), program_of("read c3 3 / read c4 4 / tell z 4 / tell x 3"))
        self.assertEqual((ahead_part(Program([], [], []), 0), rest_part(Program([], [], []), 0)), (Program([], [], []),) * 2)

    def test_read_and_written_in_one_hour(self):
        program = program_of("read a 1 / read b 20 / - / 1 = f(1) / 20 = k() / tell x 1 / tell y 20")
        self.assertEqual(ahead_part(program, 1).tells(), [("c1", 1)])
        self.assertEqual(ahead_part(program, 2).tells(), [("c1", 1)])
        self.assertEqual(ahead_part(program, 3).tells(), [("c1", 1), ("c20", 20)])
        self.assertEqual(rest_part(program, 3).reads(), [("c1", 1), ("c20", 20)])

    def test_by_cells_not_by_reads(self):
        program = program_of("read b 999 / read a 30 / read c 4 / 5 = f(999, 30) / tell x 5 / tell c4 4")
        self.assertEqual(ahead_part(program, 0).reads(), program.reads())
        self.assertEqual(ahead_part(program, 0).tells(), [("c4", 4), ("c30", 30), ("c999", 999)])
        self.assertEqual(rest_part(program, 0).tells(), [("x", 5), ("c4", 4)])

    def test_alive_cells_of_random_programs(self):
        for program in random_programs(461, 250, hours=6):
            for hour in range(len(program.hours()) + 1):
                alive = [(f"c{cell}", cell) for cell in alive_by_hand(program, hour)]
                self.assertEqual(ahead_part(program, hour), Program(program.reads(), program.hours()[:hour], alive))
                self.assertEqual(rest_part(program, hour), Program(alive, program.hours()[hour:], program.tells()))

    def test_the_rest_tells_what_the_program_does(self):
        rng = random.Random(462)
        for program in random_programs(463, 150, hours=6):
            for hour in range(len(program.hours()) + 1):
                rows, starts, other = random_box(rng)
                ahead = ahead_part(program, hour)
                rest = rest_part(program, hour)
                self.assertTrue(is_sound(ahead) and is_sound(rest))
                handed = run(ahead, (rows, starts, other))
                self.assertEqual(run(rest, (rows, handed, other)), run(program, (rows, starts, other)))

    def test_no_hour(self):
        for ask in (ahead_part, rest_part):
            for thing in [4, -1, True, False, None, "1", [1], (1,), {}, P, 10 ** 9]:
                with self.assertRaises(NoHour) as caught:
                    ask(P, thing)
                self.assertIs(caught.exception.hour, thing)
            with self.assertRaises(NoHour):
                ask(Program([], [], []), 1)


if __name__ == "__main__":
    unittest.main()
