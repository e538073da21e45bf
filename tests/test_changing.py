"""[67]: what a changed source costs, and what of a program or a plan it spares."""

import itertools
import random
import unittest

from twoslots.changing import change_hours, new_terms, stays_best, wasted
from twoslots.errors import BadPlan, BadProgram, BadSource, NotSound
from twoslots.needed import order_of
from twoslots.orders import Order
from twoslots.plans import best_plan
from twoslots.programs import Program
from twoslots.sources import Source
from twoslots.sourcetexts import read_source

from tests.hopeoracles import held_behind, hours_of_terms, needed_by, needs, numbers_of, order_of_terms
from tests.hopeoracles import random_program_for, rich_sources, told_terms_of_source
from tests.planoracles import all_plans, least_hours
from tests.programsamples import P, done, program_of
from tests.samples import OBJECTS, T_TEXT, random_sources, source_of, term_list
from tests.test_cells import random_plan

T = read_source(T_TEXT)
LOSES = program_of("read a 1 / read b 2 / 3 = f(1, 2) / 3 = g(3, 3) / 4 = f(1, 2) / 5 = h(3, 4) / tell z 5 / tell x 4")
W = source_of("read a / read b / w = k(f(a, b)) / tell w")


def needed_in_order(source):
    return [term for term in term_list(source) if term in needed_by(source)]


def pairs_of_sources(seed, many):
    """Sources at random, and each one with some lines otherwise."""
    rng = random.Random(seed)
    sources = rich_sources(seed, many, least=2, most=7)
    for source in sources:
        yield source, rng.choice(sources)
        yield source, edited(rng, source)


def edited(rng, source):
    lines = source.lines()
    gives = [at for at, line in enumerate(lines) if line[0] == "give"]
    for at in rng.sample(gives, min(2, len(gives))):
        known = [line[1] for line in lines[:at] if line[0] != "tell"]
        if known:
            lines[at] = ("give", lines[at][1], rng.choice([rng.choice(known), ("u", rng.choice(known)), ("k",)]))
    tells = [at for at, line in enumerate(lines) if line[0] == "tell"]
    if tells and rng.random() < 0.3:
        del lines[rng.choice(tells)]
    return Source(lines)


class NewTerms(unittest.TestCase):
    def test_the_example(self):
        self.assertEqual(new_terms(T, W), [3])
        self.assertEqual(new_terms(W, T), [3, 4])
        self.assertEqual(change_hours(T, W), 1)
        self.assertEqual(change_hours(W, T), 2)

    def test_idle_terms_of_the_source_are_new(self):
        source = source_of("read a / x = f(a) / y = g(a) / tell y")
        other = source_of("read a / y = h(g(a)) / x = f(a) / tell x / tell y")
        self.assertEqual(new_terms(source, other), [2, 3])
        self.assertEqual(new_terms(other, source), [])
        self.assertEqual(change_hours(source, other), 1)

    def test_reads_of_the_other_are_held(self):
        self.assertEqual(new_terms(Source([]), T), [2, 3, 4])
        self.assertEqual(change_hours(Source([]), T), 3)
        self.assertEqual(change_hours(T, Source([])), 0)
        self.assertEqual(change_hours(T, T), 0)

    def test_random_sources(self):
        for source, other in pairs_of_sources(651, 60):
            terms = needed_by(other) - needed_by(source)
            self.assertEqual(new_terms(source, other), numbers_of(other, terms))
            self.assertEqual(change_hours(source, other), hours_of_terms(terms))

    def test_by_way_of_a_third_source_it_is_never_less(self):
        sources = rich_sources(652, 6) + random_sources(653, 3)
        sources += [edited(random.Random(654), source) for source in sources[:3]]
        for one, other, third in itertools.product(sources, repeat=3):
            self.assertLessEqual(change_hours(one, other), change_hours(one, third) + change_hours(third, other))

    def test_errors_in_order(self):
        for thing in OBJECTS + [Order(0, []), P]:
            for ask in (new_terms, change_hours, lambda one, other: stays_best(one, other, None)):
                with self.assertRaises(BadSource) as caught:
                    ask(thing, None)
                self.assertIs(caught.exception.thing, thing)
                with self.assertRaises(BadSource) as caught:
                    ask(T, thing)
                self.assertIs(caught.exception.thing, thing)


class Wasted(unittest.TestCase):
    def test_made_and_written_over(self):
        self.assertEqual(wasted(LOSES, T), [])
        self.assertEqual(wasted(program_of("read a 1 / read b 2 / 3 = f(1, 2) / 3 = g(3, 3)"), T), [2])
        other = source_of("read a / read b / y = g(f(a, b), f(a, b)) / z = m(y) / tell z")
        self.assertEqual(wasted(LOSES, other), [])
        self.assertEqual(wasted(program_of("read a 1 / read b 2 / 3 = f(1, 2) / 4 = g(3, 3) / 4 = k()"), other), [3])

    def test_whether_something_is_lost_or_not(self):
        program = program_of("read a 1 / read b 2 / 1 = f(1, 2) / 1 = k() / 2 = k() / tell x 1")
        self.assertEqual(wasted(program, T), [2])

    def test_what_is_needed_through_what_is_held_is_not_wasted(self):
        program = program_of("read a 1 / read b 2 / 3 = f(1, 2) / 4 = g(3, 3) / 3 = u()")
        self.assertEqual(wasted(program, T), [2])
        self.assertEqual(wasted(program, source_of("read a / read b / y = g(f(a, b), f(a, b)) / tell y")), [])

    def test_reads_are_not_made(self):
        self.assertEqual(wasted(program_of("read a 1 / read b 2 / 1 = k()"), T), [])

    def test_random_programs(self):
        rng = random.Random(655)
        found = 0
        for source, other in pairs_of_sources(656, 100):
            program = random_program_for(rng, source, cells=4)
            states = done(program)
            made = {states[at][cell][0] for at, hour in enumerate(program.hours(), 1) for cell, _, _ in hour}
            terms = needs(told_terms_of_source(other), held_behind(program)[-1]) & made
            wanted = [number for number in numbers_of(other, terms) if term_list(other)[number][0] != "read"]
            self.assertEqual(wasted(program, other), wanted)
            found += len(wanted)
        self.assertGreater(found, 20)

    def test_errors_in_order(self):
        wrong = program_of("1 = f(1)")
        for thing in OBJECTS + [Order(0, [])]:
            with self.assertRaises(BadProgram) as caught:
                wasted(thing, None)
            self.assertIs(caught.exception.thing, thing)
            with self.assertRaises(NotSound) as caught:
                wasted(wrong, thing)
            self.assertEqual(caught.exception.fault, (1, 1, "empty", 1))
            with self.assertRaises(BadSource) as caught:
                wasted(P, thing)
            self.assertIs(caught.exception.thing, thing)


def begins_some_best_plan(order, begun):
    return any(plan[:len(begun)] == begun for plan in all_plans(order, least_hours(order)))


def stays_by_hand(source, other, plan):
    mine, others = needed_in_order(source), needed_in_order(other)
    order = order_of_terms(others)
    best = 0
    for many in range(len(plan) + 1):
        rows = [sorted(others.index(mine[thing]) for thing in hour if mine[thing] in others) for hour in plan[:many]]
        if begins_some_best_plan(order, [row for row in rows if row]):
            best = many
    return best


class StaysBest(unittest.TestCase):
    def test_by_hand(self):
        self.assertEqual(stays_best(T, T, [[0], [1], [2]]), 3)
        self.assertEqual(stays_best(T, W, [[0], [1], [2]]), 3)
        self.assertEqual(stays_best(T, Source([]), [[0], [1], [2]]), 3)
        self.assertEqual(stays_best(Source([]), T, [[], []]), 2)
        source = source_of("read a / x = f(a) / y = g(a) / z = h(a) / tell x / tell y / tell z")
        other = source_of("read a / y = m(m(m(g(a)))) / z = h(a) / tell y / tell z / x = f(a) / tell x")
        for plan, many in [([[0, 2], [1]], 0), ([[1], [0, 2]], 1), ([[0, 1], [2]], 1), ([[1], [0], [2]], 1),
                           ([[], [0, 1], [], [2]], 3)]:
            self.assertEqual(stays_best(source, other, plan), many)
            self.assertEqual(stays_by_hand(source, other, plan), many)

    def test_hours_that_are_empty_are_left_out(self):
        self.assertEqual(stays_best(T, T, [[], [0], [], [1], [2], [], []]), 7)
        self.assertEqual(stays_best(T, W, ([], (0,), (), [1], [2])), 5)
        source = source_of("read a / x = f(a) / y = g(a) / tell x / tell y")
        self.assertEqual(stays_best(source, source, [[], [0], [], [1], []]), 1)

    def test_random_sources(self):
        rng = random.Random(657)
        some = 0
        for source, other in pairs_of_sources(658, 40):
            for plan in (best_plan(order_of(source)), random_plan(rng, order_of(source))):
                many = stays_by_hand(source, other, plan)
                self.assertEqual(stays_best(source, other, plan), many)
                some += 0 < many < len(plan)
        self.assertGreater(some, 8)

    def test_no_plan(self):
        for thing in [None, 7, "", {}, [], [[0], [1]], [[0], [2], [1]], [[0, 1], [2]], [[0], [1], [2], [2]], [[0], [1], [3]], T]:
            for other in (T, W):
                with self.assertRaises(BadPlan) as caught:
                    stays_best(T, other, thing)
                self.assertIs(caught.exception.thing, thing)

    def test_the_plan_is_not_changed(self):
        plan = [[0], [1], [2]]
        stays_best(T, W, plan)
        self.assertEqual(plan, [[0], [1], [2]])
        program = Program(P.reads(), P.hours(), P.tells())
        wasted(program, T)
        self.assertEqual(program, P)


if __name__ == "__main__":
    unittest.main()
