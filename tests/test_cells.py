"""[46]: values and lives."""

import random
import unittest

from twoslots.cells import crowded_hour, fewest_cells, lives, waiting
from twoslots.errors import BadPlan, BadSource
from twoslots.namings import count_namings, naming, naming_fault
from twoslots.needed import needed_terms, order_of
from twoslots.orders import Order
from twoslots.plans import best_plan
from twoslots.sources import Source
from twoslots.sourcetexts import read_source

from tests.planoracles import ahead_of, hours_next
from tests.samples import OBJECTS, T_TEXT, random_sources, source_of, term_list, term_parts, written

T = read_source(T_TEXT)
T_PLAN = [[0], [1], [2]]


def random_plan(rng, order):
    """Any plan, with some empty hours and some that waste a slot."""
    made = set()
    plan = []
    while len(made) < order.many() or rng.random() < 0.2:
        hours = hours_next(ahead_of(order), made)
        hour = rng.choice(hours) if hours and rng.random() < 0.9 else []
        made |= set(hour)
        plan.append(hour)
    return plan


def sources_and_plans(seed, many, **more):
    rng = random.Random(seed)
    for source in random_sources(seed, many, **more):
        yield source, random_plan(rng, order_of(source))
        yield source, best_plan(order_of(source))


def lives_by_written(source, plan):
    """As [46] tells them, of terms as nested tuples."""
    terms = term_list(source)
    tells = [term for _, term in written(source)[2]]
    needed = needed_terms(source)
    hour_of = {terms[needed[thing]]: at for at, hour in enumerate(plan, 1) for thing in hour}
    found = {}
    for number, term in enumerate(terms):
        if term[0] != "read" and number not in needed:
            continue
        wants = [hour for other, hour in hour_of.items() if term in term_parts(other)]
        last = len(plan) + 1 if term in tells else max(wants, default=1)
        found[number] = (hour_of.get(term, 0), last)
    return found


class Lives(unittest.TestCase):
    def test_the_example(self):
        self.assertEqual(lives(T, T_PLAN), {0: (0, 1), 1: (0, 1), 2: (1, 4), 3: (2, 3), 4: (3, 4)})
        self.assertEqual(waiting(T, T_PLAN), [[0, 1], [2], [2, 3], [2, 4]])
        self.assertEqual((fewest_cells(T, T_PLAN), crowded_hour(T, T_PLAN)), (2, 0))

    def test_told_reads_and_reads_that_nothing_wants(self):
        source = source_of("read a / read b / read c / x = f(a) / y = g(c) / y = h(x) / tell y / tell b")
        self.assertEqual(lives(source, [[0], [1]]), {0: (0, 1), 1: (0, 3), 2: (0, 1), 3: (1, 2), 5: (2, 3)})
        self.assertEqual(waiting(source, [[0], [1]]), [[0, 1, 2], [1, 3], [1, 5]])

    def test_plans_with_empty_hours(self):
        plan = ((), (0,), [], [1], [], [], [2], ())
        self.assertEqual(lives(T, plan), {0: (0, 2), 1: (0, 2), 2: (2, 9), 3: (4, 7), 4: (7, 9)})
        self.assertEqual(waiting(T, plan), [[0, 1], [0, 1], [2], [2], [2, 3], [2, 3], [2, 3], [2, 4], [2, 4]])

    def test_no_values_and_no_hours(self):
        self.assertEqual((lives(Source([]), []), waiting(Source([]), []), fewest_cells(Source([]), [])), ({}, [[]], 0))
        self.assertEqual((waiting(Source([]), [[], []]), crowded_hour(Source([]), [[]])), ([[], [], []], 0))
        source = source_of("read a / read b / tell b")
        self.assertEqual((lives(source, []), waiting(source, [])), ({0: (0, 1), 1: (0, 1)}, [[0, 1]]))
        self.assertEqual(lives(source, [[], []]), {0: (0, 1), 1: (0, 3)})

    def test_a_cell_is_given_anew_in_the_hour_of_its_last_reading(self):
        source = source_of("read a / x = f(a) / tell x")
        self.assertEqual((waiting(source, [[0]]), fewest_cells(source, [[0]])), ([[0], [1]], 1))

    def test_random_sources(self):
        for source, plan in sources_and_plans(361, 120, lines=10):
            spans = lives_by_written(source, plan)
            self.assertEqual(lives(source, plan), spans)
            rows = [[value for value, (made, last) in spans.items() if made <= hour < last]
                    for hour in range(len(plan) + 1)]
            self.assertEqual(waiting(source, plan), rows)
            many = [len(row) for row in rows]
            self.assertEqual(fewest_cells(source, plan), max(many))
            self.assertEqual(crowded_hour(source, plan), many.index(max(many)))

    def test_told_dicts_are_ascending_and_new(self):
        for source, plan in sources_and_plans(362, 30):
            told = lives(source, plan)
            self.assertEqual(list(told), sorted(told))
        told = lives(T, T_PLAN)
        told.clear()
        rows = waiting(T, T_PLAN)
        rows[0].append(7)
        self.assertEqual(len(lives(T, T_PLAN)), 5)
        self.assertEqual(waiting(T, T_PLAN)[0], [0, 1])
        self.assertEqual(T_PLAN, [[0], [1], [2]])


class Errors(unittest.TestCase):
    ASKS = [lives, waiting, fewest_cells, crowded_hour, lambda source, plan: naming(source, plan, None),
            lambda source, plan: naming_fault(source, plan, None), lambda source, plan: count_namings(source, plan, None)]

    def test_no_source(self):
        for thing in OBJECTS + [Order(0, [])]:
            for ask in self.ASKS:
                with self.assertRaises(BadSource) as caught:
                    ask(thing, None)
                self.assertIs(caught.exception.thing, thing)

    def test_no_plan(self):
        wrong = [None, 7, "", {}, [], [[0], [1]], [[0], [1], [1]], [[0, 1], [2]], [[1], [0], [2]], [[0], [1], [3]], [[0], None],
                 [[False], [1], [2]], [[0], [1], [2, 2]], T, [[2], [3], [4]]]
        for thing in wrong:
            for ask in self.ASKS:
                with self.assertRaises(BadPlan) as caught:
                    ask(T, thing)
                self.assertIs(caught.exception.thing, thing)


if __name__ == "__main__":
    unittest.main()
