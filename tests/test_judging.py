"""[65]: programs judged against a source."""

import unittest

from twoslots.compiled import compiled
from twoslots.errors import BadProgram, BadSource, NotSound
from twoslots.hoping import lost_hours
from twoslots.judging import is_same, judged
from twoslots.orders import Order
from twoslots.programs import Program
from twoslots.sources import Source
from twoslots.sourcetexts import read_source

from tests.hopeoracles import hours_by, sources_and_programs
from tests.programsamples import NARROW, P, program_of, tells_the_same, told_terms_of
from tests.samples import OBJECTS, T_TEXT, random_sources, source_of, written

T = read_source(T_TEXT)
LOSES = program_of("read a 1 / read b 2 / 3 = f(1, 2) / 3 = g(3, 3) / 4 = f(1, 2) / 5 = h(3, 4) / tell z 5 / tell x 4")


def first_wrong_pair(source, program):
    ones = written(source)[2]
    others = told_terms_of(program)
    for at in range(max(len(ones), len(others))):
        if ones[at:at + 1] != others[at:at + 1]:
            return at
    return None


class Judging(unittest.TestCase):
    def test_the_example(self):
        self.assertEqual(judged(T, LOSES), ("hour", 2))
        self.assertTrue(is_same(T, LOSES))

    def test_the_best(self):
        for program in (NARROW, P, compiled(T).program()):
            self.assertEqual(judged(T, program), ("best",))
            self.assertIs(is_same(T, program), True)
        self.assertEqual(judged(Source([]), Program([], [], [])), ("best",))

    def test_pairs_that_are_wrong(self):
        begin = "read a 1 / read b 2 / 3 = f(1, 2) / 4 = g(3, 3) / 4 = h(4, 3) / "
        for tells, index in [("tell z 3 / tell x 4", 0), ("tell z 4 / tell x 4", 1), ("tell x 3 / tell z 4", 0),
                             ("tell z 4", 1), ("", 0), ("tell z 4 / tell x 3 / tell y 3", 2), ("tell z 4 / tell y 3", 1)]:
            program = program_of(begin + tells)
            self.assertEqual(judged(T, program), ("pair", index))
            self.assertIs(is_same(T, program), False)
        self.assertEqual(judged(Source([]), program_of("read a 1 / tell a 1")), ("pair", 0))

    def test_whatever_else_is_read_or_made(self):
        program = program_of("read q 9 / read b 2 / read a 1 / 3 = f(1, 2) | 8 = u() / 4 = g(3, 3) | 7 = f(2, 1) / 4 = h(4, 3) / "
                             "tell z 4 / tell x 3")
        self.assertEqual(judged(T, program), ("best",))
        source = source_of("read a / read b / tell a")
        self.assertTrue(is_same(source, program_of("read a 3 / tell a 3")))

    def test_a_wrong_pair_ahead_of_lost_hours(self):
        program = program_of("read a 1 / read b 2 / - / 3 = f(1, 2) / - / tell x 3")
        self.assertEqual(judged(T, program), ("pair", 0))

    def test_hours_behind_all_makings_are_lost(self):
        program = program_of("read a 1 / read b 2 / 3 = f(1, 2) / 4 = g(3, 3) / 4 = h(4, 3) / - / tell z 4 / tell x 3")
        self.assertEqual(judged(T, program), ("hour", 4))

    def test_random_programs(self):
        kinds = {"pair": 0, "hour": 0, "best": 0}
        for source, program in sources_and_programs(631, 120, hours=5, cells=7):
            told = judged(source, program)
            index = first_wrong_pair(source, program)
            self.assertIs(is_same(source, program), tells_the_same(source, program))
            if index is not None:
                self.assertEqual(told, ("pair", index))
            elif len(program.hours()) == hours_by(source):
                self.assertEqual(told, ("best",))
            else:
                self.assertEqual(told, ("hour", lost_hours(source, program)[0][0]))
            kinds[told[0]] += 1
        self.assertGreater(min(kinds.values()), 15, kinds)

    def test_what_is_compiled_is_best(self):
        for source in random_sources(632, 60):
            self.assertEqual(judged(source, compiled(source).program()), ("best",))

    def test_errors_in_order(self):
        wrong = program_of("1 = k() | 1 = k()")
        for thing in OBJECTS + [Order(0, [])]:
            for ask in (is_same, judged):
                with self.assertRaises(BadSource) as caught:
                    ask(thing, None)
                self.assertIs(caught.exception.thing, thing)
                with self.assertRaises(BadProgram) as caught:
                    ask(T, thing)
                self.assertIs(caught.exception.thing, thing)
                with self.assertRaises(NotSound) as caught:
                    ask(T, wrong)
                self.assertEqual(caught.exception.fault, (1, 2, "both", 1))


if __name__ == "__main__":
    unittest.main()
