"""[12]: the texts of programs."""

import random
import unittest

from twoslots.errors import BadProgram, BadText
from twoslots.programs import Program
from twoslots.programtexts import program_fault, program_goes_on, program_text, read_program
from twoslots.sources import Source

from tests.samples import NO_STRINGS, OBJECTS, P_HOURS, P_READS, P_TELLS, P_TEXT


def random_program(rng, names=("a", "b", "rea", "tell1", "abcdefgh"), cells=(1, 2, 10, 12, 999)):
    def instruction():
        count = rng.randint(0, 3)
        return (rng.choice(cells), rng.choice(names), tuple(rng.choice(cells) for _ in range(count)))

    many = rng.randint(0, 3)
    reads = list(zip(rng.sample(names, many), rng.sample(cells, many)))
    hours = [[instruction() for _ in range(rng.randint(0, 2))] for _ in range(rng.randint(0, 4))]
    tells = [(name, rng.choice(cells)) for name in rng.sample(names, rng.randint(0, 3))]
    return Program(reads, hours, tells)


def random_programs(seed, many):
    rng = random.Random(seed)
    return [random_program(rng) for _ in range(many)]


class ProgramTexts(unittest.TestCase):
    def test_there_and_back(self):
        program = Program(P_READS, P_HOURS, P_TELLS)
        self.assertEqual(program_text(program), P_TEXT)
        self.assertEqual(read_program(P_TEXT), program)
        self.assertEqual(read_program(P_TEXT).hours(), P_HOURS)

    def test_the_empty_text(self):
        self.assertEqual(program_text(Program([], [], [])), "")
        self.assertEqual(read_program(""), Program([], [], []))
        self.assertIsNone(program_fault(""))
        self.assertEqual(program_goes_on(""), "")

    def test_empty_hours_and_long_cells(self):
        program = Program([("a", 999), ("b", 100)],
                          [[], [(100, "f", (999, 10, 1)), (7, "g", ())], [], [(12, "abcdefgh", (120,))]],
                          [("a", 999)])
        text = ("read a 999\nread b 100\n-\n100 = f(999, 10, 1) | 7 = g()\n-\n12 = abcdefgh(120)\ntell a 999\n")
        self.assertEqual(program_text(program), text)
        self.assertEqual(read_program(text), program)

    def test_random_programs(self):
        for program in random_programs(41, 300):
            text = program_text(program)
            self.assertEqual(read_program(text), program)
            self.assertEqual(read_program(text).hours(), program.hours())
            self.assertIsNone(program_fault(text))

    def test_unlike_programs_have_unlike_texts(self):
        rows = random_programs(42, 100)
        for one in rows:
            for other in rows:
                self.assertEqual(program_text(one) == program_text(other), one == other)

    def test_bad_text_has_its_place(self):
        for text, place in (("read a 1\nread b 1\n", (2, 9)), ("1 = 2", (1, 5)), ("-", (1, 2)), ("--", (1, 2)),
                            ("tell a 1\n-\n", (2, 1)), ("\n", (1, 1)), ("1 = f()", (1, 8))):
            with self.assertRaises(BadText) as caught:
                read_program(text)
            self.assertEqual((caught.exception.line, caught.exception.sign), place, text)
            self.assertEqual(program_fault(text), place)

    def test_no_string(self):
        for thing in NO_STRINGS + [b"", b"-\n", Program([], [], [])]:
            with self.assertRaises(BadText) as caught:
                read_program(thing)
            self.assertEqual((caught.exception.line, caught.exception.sign), (0, 0))
            self.assertEqual(program_fault(thing), (0, 0))
            self.assertIsNone(program_goes_on(thing))

    def test_no_program(self):
        for thing in OBJECTS + [P_TEXT, Source([])]:
            with self.assertRaises(BadProgram) as caught:
                program_text(thing)
            self.assertIs(caught.exception.thing, thing)


if __name__ == "__main__":
    unittest.main()
