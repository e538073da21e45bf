"""[49]: cells of anybody's program."""

import itertools
import unittest

from twoslots.faults import is_sound
from twoslots.programs import Program
from twoslots.recells import cells_wanted, crowded_in, with_fewer_cells

from tests.programsamples import NARROW, P, done, finds, program_of, random_programs


def lives_by_hand(program):
    """From who wrote a value to the hours in which it is made and last wanted, by the words of [49]."""
    many = len(program.hours())
    written = {(0, cell): ("read", name) for name, cell in program.reads()}
    for at, hour in enumerate(program.hours(), 1):
        for slot, (cell, _, _) in enumerate(hour, 1):
            written[at, cell] = (at, slot)
    found = {}
    for (made, cell), who in written.items():
        anew = [hour for hour, other in written if other == cell and hour > made]
        end = min(anew, default=many + 1)
        reads = [at for at, hour in enumerate(program.hours(), 1) if made < at <= end
                 and any(cell in cells for _, _, cells in hour)]
        if not anew and cell in [told for _, told in program.tells()]:
            found[who] = (made, many + 1)
        else:
            found[who] = (made, max(reads, default=made + 1))
    return found


def many_by_hand(program):
    spans = lives_by_hand(program).values()
    return [sum(made <= hour < last for made, last in spans) for hour in range(len(program.hours()) + 1)]


def shape(program):
    """All of a program but for its cells."""
    hours = [[(name, len(cells)) for _, name, cells in hour] for hour in program.hours()]
    return [name for name, _ in program.reads()], hours, [name for name, _ in program.tells()]


def cells_in(program):
    cells = [cell for _, cell in program.reads() + program.tells()]
    for hour in program.hours():
        for cell, _, read in hour:
            cells.extend((cell, *read))
    return sorted(set(cells))


class Recells(unittest.TestCase):
    def check(self, program):
        many = many_by_hand(program)
        self.assertEqual(cells_wanted(program), max(many))
        self.assertEqual(crowded_in(program), many.index(max(many)))
        less = with_fewer_cells(program)
        self.assertTrue(is_sound(less))
        self.assertEqual(shape(less), shape(program))
        self.assertEqual(finds(less), finds(program))
        self.assertEqual(cells_in(less), list(range(1, max(many) + 1)))
        self.assertEqual(cells_wanted(less), max(many))

    def test_the_example(self):
        self.assertEqual((cells_wanted(P), crowded_in(P)), (2, 0))
        self.check(P)
        self.assertEqual(cells_in(with_fewer_cells(P)), [1, 2])
        self.check(NARROW)

    def test_cells_that_are_used_again(self):
        self.check(program_of("read a 7 / 7 = f(7) / 7 = f(7) / 7 = g(7, 7) / tell x 7"))
        self.assertEqual(cells_wanted(program_of("read a 7 / 7 = f(7) / 8 = f(7) / 9 = f(8) / tell x 9")), 1)
        self.check(program_of("read a 1 / read b 2 / 1 = f(2) | 2 = f(1) / 1 = f(2) | 2 = f(1) / tell x 1 / tell y 2"))

    def test_made_in_vain(self):
        program = program_of("read a 1 / 2 = k() | 3 = k() / 4 = f(1) / tell x 4")
        self.assertEqual((cells_wanted(program), crowded_in(program)), (3, 1))
        self.check(program)
        program = program_of("read a 1 / 2 = f(1) | 3 = f(1) / tell x 2")
        self.assertEqual((cells_wanted(program), crowded_in(program)), (2, 1))
        self.check(program)
        self.check(program_of("2 = k() / - / 3 = k() / -"))

    def test_made_twice(self):
        program = program_of("read a 1 / 2 = f(1) / 3 = f(1) / 4 = g(2, 3) | 2 = g(3, 2) / 5 = g(2, 2) / tell x 5 / tell y 4")
        self.check(program)
        self.check(program_of("read a 1 / 1 = f(1) | 2 = f(1) / 3 = g(1, 2) | 1 = g(2, 1) / tell x 1 / tell y 3"))

    def test_reads_that_nothing_wants_and_told_ones(self):
        program = program_of("read a 4 / read b 5 / read c 6 / - / tell x 5 / tell y 5")
        self.assertEqual((cells_wanted(program), crowded_in(program)), (3, 0))
        self.check(program)
        self.check(program_of("read a 4 / read b 5"))
        self.check(Program([], [], []))
        self.check(Program([], [[], []], []))
        # Written over ahead of being read or told: it waits behind the begin alone.
        self.check(program_of("read a 1 / read b 2 / 1 = k() | 2 = k() / tell x 1 / tell y 2"))

    def test_random_programs(self):
        for program in random_programs(411, 400, hours=7):
            self.check(program)

    def test_with_fewer_cells_there_is_none(self):
        """All ways to give fewer cells to small programs: none finds the same."""
        asked = 0
        for program in random_programs(412, 120, cells=3, hours=3):
            values = list(lives_by_hand(program))
            cells = cells_wanted(program) - 1
            if len(values) > 6 or cells < 1:
                continue
            asked += 1
            for way in itertools.product(range(1, cells + 1), repeat=len(values)):
                other = self.renamed(program, dict(zip(values, way)))
                self.assertFalse(other is not None and is_sound(other) and finds(other) == finds(program))
        self.assertGreater(asked, 40)

    def renamed(self, program, cells):
        """The program with such cells for its values, None if two reads get one."""
        states = done(program)
        if len({cells["read", name] for name, _ in program.reads()}) < len(program.reads()):
            return None
        hours = []
        for at, hour in enumerate(program.hours(), 1):
            hours.append([(cells[at, slot], name, tuple(cells[states[at - 1][part][1]] for part in read))
                          for slot, (_, name, read) in enumerate(hour, 1)])
        tells = [(name, cells[states[-1][cell][1]]) for name, cell in program.tells()]
        return Program([(name, cells["read", name]) for name, _ in program.reads()], hours, tells)

    def test_the_same_one_each_time(self):
        for program in random_programs(413, 30):
            again = Program(tuple(program.reads()), tuple(program.hours()), program.tells())
            self.assertEqual(with_fewer_cells(again), with_fewer_cells(program))


if __name__ == "__main__":
    unittest.main()
