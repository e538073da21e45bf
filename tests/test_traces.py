"""[59]: from what a program makes back to the source, and on."""

import unittest

from twoslots.cellhours import text_within
from twoslots.errors import BadProgram, BadSource, NoSpot, NotSound
from twoslots.needed import needed_terms
from twoslots.orders import Order
from twoslots.places import expr_at, places
from twoslots.programs import Program
from twoslots.sources import Source
from twoslots.sourcetexts import read_source
from twoslots.terms import places_of
from twoslots.traces import made_at, places_made

from tests.programsamples import NARROW, P, done, program_of, random_programs, spots_of
from tests.samples import OBJECTS, T_TEXT, random_sources, source_of, term_list

T = read_source(T_TEXT)


def term_at(program, spot):
    return done(program)[spot[0]][program.hours()[spot[0] - 1][spot[1] - 1][0]][0]


class Traces(unittest.TestCase):
    def test_the_example(self):
        for program in (NARROW, P):
            self.assertEqual(places_made(T, program, 1, 1), [(3, 5, 11), (4, 7, 7), (4, 10, 16), (5, 10, 10)])
            self.assertEqual(places_made(T, program, 3, 1), places_of(T, 4))

    def test_back_from_a_place(self):
        self.assertEqual(made_at(T, NARROW, 3, 5), [(1, 1)])
        self.assertEqual(made_at(T, NARROW, 3, 6), [(1, 1)])
        self.assertEqual(made_at(T, NARROW, 4, 7), [(1, 1)])
        self.assertEqual(made_at(T, NARROW, 4, 5), [(2, 1)])
        self.assertEqual(made_at(T, NARROW, 3, 7), [])
        for line, sign in [(1, 1), (3, 4), (3, 12), (6, 1), (8, 1), (0, 5), (3, 0)]:
            self.assertIsNone(made_at(T, NARROW, line, sign))

    def test_made_twice_otherwise_or_not_at_all(self):
        program = program_of("read b 1 / read a 2 / 3 = f(2, 1) | 4 = f(2, 1) / 5 = f(1, 2) | 3 = f(3, 4) / tell x 5")
        self.assertEqual(places_made(T, program, 1, 2), places_of(T, 2))
        self.assertEqual((places_made(T, program, 2, 1), places_made(T, program, 2, 2)), ([], []))
        self.assertEqual(made_at(T, program, 4, 10), [(1, 1), (1, 2)])
        self.assertEqual(made_at(T, program, 5, 5), [])
        nothing = program_of("read q 1 / 2 = f(1, 1) / tell x 2")
        self.assertEqual((places_made(T, nothing, 1, 1), made_at(T, nothing, 3, 5)), ([], []))
        self.assertEqual(made_at(T, Program([], [], []), 3, 5), [])

    def test_operations_of_as_many_parts_alone_are_one(self):
        source = source_of("read a / x = f(a) / y = f(a, a)")
        program = program_of("read a 1 / 2 = f(1) | 3 = f(1, 1) / tell p 2")
        self.assertEqual((places_made(source, program, 1, 1), places_made(source, program, 1, 2)), ([(2, 5, 8)], [(3, 5, 11)]))
        self.assertEqual((made_at(source, program, 2, 5), made_at(source, program, 3, 5)), ([(1, 1)], [(1, 2)]))

    def test_random_sources_and_programs(self):
        sources = random_sources(471, 60, lines=8)
        programs = random_programs(472, 12)
        for source in sources:
            terms = term_list(source)
            for program in programs:
                made = {spot: term_at(program, spot) for spot in spots_of(program)}
                for spot, term in made.items():
                    wanted = places_of(source, terms.index(term)) if term in terms else []
                    self.assertEqual(places_made(source, program, *spot), wanted)
                for line, first, _, _ in places(source):
                    shortest = expr_at(source, line, first)
                    number = [at for at in range(len(terms)) if shortest[:3] in places_of(source, at)][0]
                    wanted = [spot for spot in sorted(made) if made[spot] == terms[number]]
                    self.assertEqual(made_at(source, program, line, first), wanted)

    def test_each_needed_term_is_made_behind_its_parts(self):
        for source in random_sources(473, 60, lines=8, depth=1):
            if len(term_list(source)) > 9:
                continue
            program = text_within(source, 9, 9)
            for number in needed_terms(source):
                line, first, _ = [place for place in places_of(source, number)
                                  if expr_at(source, place[0], place[1])[:3] == place][0]
                self.assertNotEqual(made_at(source, program, line, first), [])

    def test_no_spot(self):
        for hour, slot in [(4, 1), (1, 2), (0, 1), (1, 0), (True, 1), (1, True), (None, 1), ("1", 1), (1, [1]), ({}, P),
                           (-1, 1), (10 ** 9, 1)]:
            with self.assertRaises(NoSpot) as caught:
                places_made(T, P, hour, slot)
            self.assertIs(caught.exception.hour, hour)
            self.assertIs(caught.exception.slot, slot)

    def test_errors_in_order(self):
        wrong = program_of("1 = f(1)")
        for thing in OBJECTS + [Order(0, [])]:
            for ask in (lambda source, program: places_made(source, program, None, None),
                        lambda source, program: made_at(source, program, 3, 5)):
                with self.assertRaises(BadSource) as caught:
                    ask(thing, None)
                self.assertIs(caught.exception.thing, thing)
                with self.assertRaises(BadProgram) as caught:
                    ask(T, thing)
                self.assertIs(caught.exception.thing, thing)
                with self.assertRaises(NotSound) as caught:
                    ask(Source([]), wrong)
                self.assertEqual(caught.exception.fault, (1, 1, "empty", 1))


if __name__ == "__main__":
    unittest.main()
