"""[57]: what hangs on what."""

import random
import unittest

from twoslots.errors import BadSpots, NoTold
from twoslots.faults import is_sound
from twoslots.programs import Program
from twoslots.slices import idle, struck, wanted_for

from tests.programsamples import NARROW, P, finds, program_of, random_programs, spots_of, told_terms_of
from tests.samples import NO_STRINGS, function_of_somebody


def hanging_on(program, names):
    """The spots that the tells of some names read, that those read, and on so."""
    reads, tells = finds(program)
    found = {spot for name, spot in tells if name in names}
    queue = list(found)
    for spot in queue:
        for other in reads[spot[0] - 1][spot[1] - 1] if spot[0] != "read" else []:
            if other not in found:
                found.add(other)
                queue.append(other)
    return sorted(spot for spot in found if spot[0] != "read")


def without(program, spots):
    hours = [[part for slot, part in enumerate(hour, 1) if (at, slot) not in spots]
             for at, hour in enumerate(program.hours(), 1)]
    return Program(program.reads(), hours, program.tells())


class Wanted(unittest.TestCase):
    def test_the_example(self):
        self.assertEqual(wanted_for(NARROW, "x"), [(1, 1)])
        self.assertEqual(wanted_for(NARROW, "z"), [(1, 1), (2, 1), (3, 1)])
        self.assertEqual(idle(NARROW), [])

    def test_what_the_cell_holds_then(self):
        program = program_of("read a 1 / 2 = f(1) | 3 = k() / 2 = g(2, 3) | 3 = f(1) / 1 = f(3) / tell x 2 / tell y 1")
        self.assertEqual(wanted_for(program, "x"), [(1, 1), (1, 2), (2, 1)])
        self.assertEqual(wanted_for(program, "y"), [(2, 2), (3, 1)])
        self.assertEqual(idle(program), [])
        swapped = program_of("read a 1 / read b 2 / 1 = f(2) | 2 = f(1) / 1 = f(2) / tell x 1")
        self.assertEqual((wanted_for(swapped, "x"), idle(swapped)), ([(1, 2), (2, 1)], [(1, 1)]))

    def test_told_reads(self):
        program = program_of("read a 1 / 2 = f(1) / - / tell x 1")
        self.assertEqual((wanted_for(program, "x"), idle(program)), ([], [(1, 1)]))
        self.assertEqual((idle(program_of("1 = k() | 2 = k()")), idle(Program([], [], []))), ([(1, 1), (1, 2)], []))

    def test_random_programs(self):
        for program in random_programs(451, 300):
            for name, _ in program.tells():
                self.assertEqual(wanted_for(program, name), hanging_on(program, [name]))
            hanging = hanging_on(program, [name for name, _ in program.tells()])
            self.assertEqual(idle(program), [spot for spot in spots_of(program) if spot not in hanging])

    def test_no_told(self):
        for thing in NO_STRINGS + ["", "a", "y", "read", NARROW]:
            with self.assertRaises(NoTold) as caught:
                wanted_for(NARROW, thing)
            self.assertIs(caught.exception.thing, thing)


class Struck(unittest.TestCase):
    def test_hours_stay(self):
        self.assertEqual(struck(P, [(2, 1)]).hours(), [P.hours()[0], [], P.hours()[2]])
        program = program_of("1 = k() | 2 = j() / 3 = f(1) / tell x 3")
        self.assertEqual(struck(program, [[1, 1], (2, 1)]), program_of("2 = j() / - / tell x 3"))
        self.assertEqual(struck(program, ((2, 1), (1, 2), [1, 1])), program_of("- / - / tell x 3"))
        self.assertEqual(struck(program, []), program)

    def test_without_all_idle_ones_it_means_the_same(self):
        gone = 0
        for program in random_programs(452, 300):
            spots = idle(program)
            less = struck(program, spots)
            self.assertEqual(less, without(program, spots))
            self.assertTrue(is_sound(less))
            self.assertEqual(told_terms_of(less), told_terms_of(program))
            self.assertEqual(idle(less), [])
            gone += len(spots)
        self.assertGreater(gone, 100)

    def test_any_spots_in_any_order(self):
        rng = random.Random(453)
        for program in random_programs(454, 150):
            every = spots_of(program)
            spots = rng.sample(every, rng.randint(0, len(every)))
            kept = list(spots)
            self.assertEqual(struck(program, spots), without(program, spots))
            self.assertEqual(spots, kept)

    def test_without_some_it_need_not_be_sound(self):
        program = program_of("1 = k() / 2 = f(1) / tell x 1")
        self.assertEqual(idle(program), [(2, 1)])
        self.assertFalse(is_sound(struck(program, [(1, 1)])))

    def test_bad_spots(self):
        wrong = [None, 1, "11", (), (1,), (1, 1, 1), (0, 1), (1, 0), (1, 2), (4, 1), (True, 1), (1, True), ("1", 1), (1, "1"),
                 ([1], 1), (1, None), (-1, 1), {1: 1}, {}, P, function_of_somebody, (10 ** 9, 1), [(1, 1)], (2, 1)]
        for thing in wrong:
            for spots in ([(2, 1), thing, (1, 1)], ([2, 1], thing, None)):
                with self.assertRaises(BadSpots) as caught:
                    struck(P, spots)
                self.assertEqual(caught.exception.index, 1, thing)
        for thing in [thing for thing in NO_STRINGS if not isinstance(thing, (list, tuple))] + ["", P]:
            with self.assertRaises(BadSpots) as caught:
                struck(P, thing)
            self.assertEqual(caught.exception.index, 0)
        with self.assertRaises(BadSpots) as caught:
            struck(P, (1, 1))
        self.assertEqual(caught.exception.index, 0)


if __name__ == "__main__":
    unittest.main()
