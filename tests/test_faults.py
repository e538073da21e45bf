"""[54], [55]: faults of programs, and the terms of sound ones."""

import unittest

from twoslots.cuts import ahead_part, rest_part
from twoslots.errors import BadProgram, NotSound
from twoslots.faults import first_fault, is_sound, program_terms
from twoslots.programs import Program
from twoslots.recells import cells_wanted, crowded_in, with_fewer_cells
from twoslots.running import Run, run
from twoslots.slices import idle, struck, wanted_for
from twoslots.sources import Source
from twoslots.sourcetexts import read_source
from twoslots.terms import term_rows, told_numbers
from twoslots.traces import made_at, places_made

from tests.programsamples import NARROW, NARROW_TEXT, P, done, fault_by_hand, program_of, random_programs, told_terms_of
from tests.samples import OBJECTS, T_TEXT, source_of


class Faults(unittest.TestCase):
    def test_the_examples(self):
        self.assertIsNone(first_fault(NARROW))
        self.assertTrue(is_sound(NARROW))
        text = NARROW_TEXT.replace("2 = g(1, 1)", "2 = g(3, 1)").replace("\n", "/")
        self.assertEqual(first_fault(program_of(text)), (2, 1, "empty", 3))
        self.assertFalse(is_sound(program_of(text)))

    def test_each_kind(self):
        for text, fault in [
                ("1 = f(2)", (1, 1, "empty", 2)), ("read a 1 / 2 = f(1, 4, 3)", (1, 1, "empty", 4)),
                ("read a 1 / 1 = f(1) | 3 = f(2)", (1, 2, "empty", 2)), ("1 = k() | 1 = k()", (1, 2, "both", 1)),
                ("read a 1 / 1 = f(1) | 1 = f(2)", (1, 2, "empty", 2)), ("- / 7 = k() | 7 = f()", (2, 2, "both", 7)),
                ("tell a 1", (1, 1, "empty", 1)), ("read a 1 / - / tell b 1 / tell c 3 / tell d 2", (2, 2, "empty", 3)),
                ("read a 1 / 2 = f(1) / tell b 3", (2, 1, "empty", 3))]:
            self.assertEqual(first_fault(program_of(text)), fault, text)
            self.assertFalse(is_sound(program_of(text)))

    def test_both_read_what_stood_at_the_begin(self):
        self.assertIsNone(first_fault(program_of("read a 1 / read b 2 / 1 = f(2) | 2 = f(1)")))
        self.assertEqual(first_fault(program_of("1 = k() | 2 = f(1)")), (1, 2, "empty", 1))
        self.assertEqual(first_fault(program_of("1 = f(1)")), (1, 1, "empty", 1))
        self.assertIsNone(first_fault(program_of("1 = k() / 2 = f(1) | 1 = g(1, 1)")))

    def test_the_first_one(self):
        self.assertEqual(first_fault(program_of("1 = k() / 2 = f(3) | 2 = f(4) / tell a 9")), (2, 1, "empty", 3))
        self.assertEqual(first_fault(program_of("1 = k() / 2 = k() | 2 = f(4) / tell a 9")), (2, 2, "empty", 4))
        self.assertEqual(first_fault(program_of("1 = k() / 2 = k() | 2 = f(1) / tell a 9")), (2, 2, "both", 2))

    def test_no_hours(self):
        self.assertIsNone(first_fault(Program([], [], [])))
        self.assertIsNone(first_fault(program_of("read a 5 / tell b 5 / tell a 5")))
        self.assertEqual(first_fault(program_of("read a 5 / tell b 5 / tell a 4")), (1, 2, "empty", 4))
        self.assertIsNone(first_fault(program_of("- / -")))

    def test_random_programs(self):
        faults = 0
        for program in random_programs(401, 600, right=False) + random_programs(402, 200):
            fault = fault_by_hand(program)
            self.assertEqual(first_fault(program), fault)
            self.assertIs(is_sound(program), fault is None)
            faults += fault is not None
        self.assertGreater(faults, 200)

    def test_no_program(self):
        for thing in OBJECTS + [Source([]), [[], [], []]]:
            for ask in (first_fault, is_sound):
                with self.assertRaises(BadProgram) as caught:
                    ask(thing)
                self.assertIs(caught.exception.thing, thing)


class NotSoundOnes(unittest.TestCase):
    """Right behind BadProgram, and ahead of all errors of later parameters."""

    T = read_source(T_TEXT)
    ASKS = [program_terms, cells_wanted, crowded_in, with_fewer_cells, lambda program: run(program, None),
            lambda program: wanted_for(program, None), idle, lambda program: struck(program, None),
            lambda program: ahead_part(program, None), lambda program: rest_part(program, None),
            lambda program: places_made(NotSoundOnes.T, program, None, None),
            lambda program: made_at(NotSoundOnes.T, program, 3, 5)]

    def test_not_sound(self):
        for program in random_programs(403, 120, right=False):
            fault = fault_by_hand(program)
            for ask in self.ASKS if fault else []:
                with self.assertRaises(NotSound) as caught:
                    ask(program)
                self.assertEqual(caught.exception.fault, fault)

    def test_no_program(self):
        for thing in OBJECTS + [Source([])]:
            for ask in self.ASKS + [lambda program: Run(program, None)]:
                with self.assertRaises(BadProgram) as caught:
                    ask(thing)
                self.assertIs(caught.exception.thing, thing)


class Terms(unittest.TestCase):
    def test_the_example(self):
        rows = [("read", "a"), ("read", "b"), ("f", [0, 1]), ("g", [2, 2]), ("h", [3, 2])]
        self.assertEqual(program_terms(NARROW), (rows, [("z", 4), ("x", 2)]))
        self.assertEqual(program_terms(P), (rows, [("z", 4), ("x", 2)]))

    def test_reads_in_the_program_s_order_and_terms_once(self):
        program = program_of("read b 4 / read a 9 / 1 = f(9) | 2 = f(4) / 9 = f(9) | 3 = k() / tell p 1 / tell a 4 / tell q 9")
        rows = [("read", "b"), ("read", "a"), ("f", [1]), ("f", [0]), ("k", [])]
        self.assertEqual(program_terms(program), (rows, [("p", 2), ("a", 0), ("q", 2)]))

    def test_what_is_made_in_an_hour_of_what_stood_at_its_begin(self):
        program = program_of("read a 1 / read b 2 / 1 = f(2) | 2 = f(1) / 3 = g(1, 2) / tell x 3")
        rows = [("read", "a"), ("read", "b"), ("f", [1]), ("f", [0]), ("g", [2, 3])]
        self.assertEqual(program_terms(program), (rows, [("x", 4)]))

    def test_nothing(self):
        self.assertEqual(program_terms(Program([], [], [])), ([], []))

    def test_random_programs(self):
        for program in random_programs(404, 250):
            rows, told = program_terms(program)
            terms = []
            for row in rows:
                terms.append(row if row[0] == "read" else (row[0],) + tuple(terms[part] for part in row[1]))
            self.assertEqual(terms, self.terms_in_order(program))
            self.assertEqual([(name, terms[number]) for name, number in told], told_terms_of(program))

    def terms_in_order(self, program):
        states = done(program)
        found = [("read", name) for name, _ in program.reads()]
        for at, hour in enumerate(program.hours(), 1):
            for cell, _, _ in hour:
                if states[at][cell][0] not in found:
                    found.append(states[at][cell][0])
        return found

    def test_as_the_source_tells_them(self):
        source = source_of("read a / x = f(a) / y = g(x, k()) / tell y / tell x")
        program = program_of("read a 3 / 1 = f(3) / 2 = k() / 2 = g(1, 2) / tell y 2 / tell x 1")
        self.assertEqual(program_terms(program), (term_rows(source), told_numbers(source)))

    def test_told_lists_are_new(self):
        rows, told = program_terms(P)
        rows[2][1].append(7)
        rows.clear()
        told.clear()
        self.assertEqual(program_terms(P)[0][2], ("f", [0, 1]))


if __name__ == "__main__":
    unittest.main()
