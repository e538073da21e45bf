"""[66]: programs that go on from behind an hour of another one."""

import random
import unittest

from twoslots.errors import BadMany, BadProgram, BadSource, NotSound
from twoslots.hoping import go_on, hopes
from twoslots.orders import Order
from twoslots.programs import Program
from twoslots.sources import Source
from twoslots.sourcetexts import read_source

from tests.hopeoracles import sources_and_programs
from tests.programsamples import P, fault_by_hand, program_of, tells_the_same
from tests.samples import OBJECTS, T_TEXT, source_of

T = read_source(T_TEXT)


class GoingOn(unittest.TestCase):
    def check(self, source, program):
        told = hopes(source, program)
        for many, hope in enumerate(told):
            on = go_on(source, program, many)
            if hope is None:
                self.assertIsNone(on)
                continue
            self.assertIsNone(fault_by_hand(on))
            self.assertTrue(tells_the_same(source, on))
            self.assertEqual(on.reads(), program.reads())
            self.assertEqual(on.hours()[:many], program.hours()[:many])
            self.assertEqual(len(on.hours()), hope)
        return told

    def test_from_behind_each_hour(self):
        for source, program in sources_and_programs(641, 120):
            self.check(source, program)

    def test_few_cells(self):
        lost = 0
        for source, program in sources_and_programs(642, 80, cells=2, hours=6):
            lost += None in self.check(source, program)
        self.assertGreater(lost, 40)

    def test_the_text_t(self):
        self.check(T, P)
        self.assertEqual(go_on(T, program_of("read a 1 / read b 2 / 3 = f(1, 2)"), 1).tells()[1], ("x", 3))
        self.assertIsNone(go_on(T, program_of("read a 1"), 0))
        self.assertEqual(go_on(Source([]), P, 2), Program(P.reads(), P.hours()[:2], []))

    def test_great_cells(self):
        source = source_of("read a / read b / x = f(a, b) / y = g(x, a) / tell y / tell b / tell x")
        program = program_of("read b 999 / read a 998 / 997 = f(998, 999) | 999 = u() / -")
        self.check(source, program)
        self.check(source, program_of("read b 999 / read q 1 / read a 998 / 997 = f(998, 999) | 2 = u() / -"))

    def test_what_is_held_in_two_cells(self):
        source = source_of("read a / x = f(a) / y = g(x, x) / tell y / tell x / tell a")
        self.check(source, program_of("read a 5 / 7 = f(5) | 2 = f(5) / 4 = f(5) | 5 = k() / 1 = u(5)"))

    def test_what_has_no_cell_of_its_own_yet_takes_no_held_one(self):
        source = source_of("read a / read b / x = f(a) / y = f(b) / z = g(x, y) / w = h(z, a) / v = h(z, b) / tell w / tell v / tell x")
        self.check(source, program_of("read a 2 / read b 1 / 3 = f(2) / 4 = f(1)"))

    def test_the_same_again(self):
        rng = random.Random(643)
        for source, program in sources_and_programs(644, 30):
            many = rng.randint(0, len(program.hours()))
            other = Program(tuple(program.reads()), tuple(map(tuple, program.hours())), tuple(program.tells()))
            self.assertEqual(go_on(source, program, many), go_on(Source(source.lines()), other, many))

    def test_errors_in_order(self):
        wrong = program_of("1 = f(1)")
        for thing in OBJECTS + [Order(0, [])]:
            with self.assertRaises(BadSource) as caught:
                go_on(thing, None, None)
            self.assertIs(caught.exception.thing, thing)
            with self.assertRaises(BadProgram) as caught:
                go_on(T, thing, None)
            self.assertIs(caught.exception.thing, thing)
            with self.assertRaises(NotSound) as caught:
                go_on(T, wrong, None)
            self.assertEqual(caught.exception.fault, (1, 1, "empty", 1))
        for thing in [-1, 4, 10 ** 9, True, False, None, "1", [1], (), {}, T, [0]]:
            with self.assertRaises(BadMany) as caught:
                go_on(T, P, thing)
            self.assertIs(caught.exception.thing, thing)
        with self.assertRaises(BadMany):
            go_on(T, Program([], [], []), 1)


if __name__ == "__main__":
    unittest.main()
