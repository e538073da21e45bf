"""[14], [53]: cells, hours and programs asked at the limits that the document tells."""

import random
import unittest

from twoslots.cellhours import cell_hours, hours_within, is_layers, layers, text_within
from twoslots.cuts import ahead_part, rest_part
from twoslots.faults import first_fault, program_terms
from twoslots.holdups import lighter_moves
from twoslots.needed import order_of
from twoslots.places import places
from twoslots.programs import Program
from twoslots.recells import cells_wanted, crowded_in, with_fewer_cells
from twoslots.running import Run, run
from twoslots.slices import idle, struck, wanted_for
from twoslots.sources import Source
from twoslots.traces import made_at, places_made

from tests.programsamples import tells_the_same


def nine_values(seed):
    """A source of nine values, up to two of which are read."""
    rng = random.Random(seed)
    reads = rng.randint(0, 2)
    known = ["a", "b"][:reads]
    lines = [("read", name) for name in known]
    for at in range(9 - reads):
        parts = rng.sample(known, min(len(known), rng.randint(0, 2)))
        lines.append(("give", f"x{at}", (f"f{at}", *parts)))
        known.append(f"x{at}")
    return Source(lines + [("tell", name) for name in known[reads:] if rng.random() < 0.4 or name == known[-1]])


class NineValues(unittest.TestCase):
    def test_five_cells_and_ten_hours(self):
        sources = [nine_values(seed) for seed in range(480, 500)]
        sources.append(Source([("give", f"x{at}", (f"f{at}",)) for at in range(9)] + [("tell", f"x{at}") for at in range(9)]))
        for source in sources:
            for cells in (1, 3, 5, 9, 999):
                least = hours_within(source, cells)
                for hours in (0, 4, 10):
                    text = text_within(source, cells, hours)
                    told = layers(source, cells, hours)
                    self.assertEqual((text is None) + (told is None), 1)
                    self.assertEqual(text is None, least is None or least > hours)
                    if text is None:
                        self.assertTrue(is_layers(source, cells, hours, told))
                    else:
                        self.assertTrue(tells_the_same(source, text))
            self.assertLessEqual(cell_hours(source)[-1][0], 9)

    def test_all_states_in_each_layer(self):
        source = Source([("give", f"x{at}", (f"f{at}",)) for at in range(9)] + [("tell", f"x{at}") for at in range(9)])
        every = [[number for number in range(9) if bits & (1 << number)] for bits in range(512)]
        states = [state for state in every if len(state) <= 5]
        self.assertTrue(is_layers(source, 5, 10, [states] * 11))
        self.assertFalse(is_layers(source, 5, 10, [states] * 10 + [states[:-1]]))


class SixtyValues(unittest.TestCase):
    def test_lighter_moves(self):
        rng = random.Random(481)
        for parts in (0, 1, 3):
            lines = [("read", f"r{at}") for at in range(5)]
            known = [name for _, name in lines]
            for at in range(55):
                lines.append(("give", f"x{at}", (f"f{at}", *rng.sample(known[-12:], parts))))
                known.append(f"x{at}")
            source = Source(lines + [("tell", name) for name in known[5:]])
            order = order_of(source)
            plan = [[thing] for thing in range(55)]
            self.assertEqual(order.many(), 55)
            for _, hour, _ in lighter_moves(source, plan):
                self.assertTrue(1 <= hour <= 55)


class TwoHundredHours(unittest.TestCase):
    def setUp(self):
        rng = random.Random(482)
        held = list(range(1, 101))
        reads = [(f"r{cell}", cell) for cell in held]
        hours = []
        for _ in range(200):
            cells = rng.sample(range(1, 1000), 2)
            hours.append([(cell, rng.choice("fgh"), tuple(rng.choice(held) for _ in range(rng.randint(0, 4))))
                          for cell in cells])
            held = sorted(set(held) | set(cells))
        self.program = Program(reads, hours, [(f"t{at}", rng.choice(held)) for at in range(50)])

    def test_cells(self):
        less = with_fewer_cells(self.program)
        self.assertEqual(cells_wanted(less), cells_wanted(self.program))
        self.assertEqual(crowded_in(less), crowded_in(self.program))
        self.assertEqual(program_terms(less), program_terms(self.program))

    def test_runs(self):
        box = ([("f", [at], at + 1) for at in range(500)], [("r1", 1), ("r2", 2)], 0)
        one = Run(self.program, box)
        for _ in range(200):
            one.step()
        self.assertEqual(one.told(), run(self.program, box))
        self.assertEqual(one.copy(), one)
        while one.back() is not None:
            self.assertIsNone(one.told())

    def test_slices_and_cuts(self):
        spots = idle(self.program)
        less = struck(self.program, spots)
        self.assertEqual((first_fault(less), idle(less)), (None, []))
        self.assertEqual(program_terms(less)[1] == [], False)
        for name, _ in self.program.tells()[:5]:
            self.assertFalse(set(wanted_for(self.program, name)) & set(spots))
        for hour in (0, 77, 200):
            self.assertEqual(ahead_part(self.program, hour).tells(), rest_part(self.program, hour).reads())

    def test_traces(self):
        lines = [("read", f"r{cell}") for cell in range(1, 61)]
        lines += [("give", f"x{at}", ("f", f"r{at + 1}", ("g", f"r{at + 2}"))) for at in range(58)]
        source = Source(lines + [("tell", f"x{at}") for at in range(58)])
        for hour in range(1, 201, 20):
            places_made(source, self.program, hour, 2)
        for line, first, _, _ in places(source)[60::20]:
            self.assertIsNotNone(made_at(source, self.program, line, first))


if __name__ == "__main__":
    unittest.main()
