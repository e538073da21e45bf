"""[61], [68], [74]: what is asked at the limits of repairs, of judged programs, of given lines and of edits."""

import random
import unittest

from twoslots.changing import change_hours, new_terms, stays_best, wasted
from twoslots.compiled import compiled
from twoslots.edits import blamed, edit_cost
from twoslots.givens import fewest_given, forcing, given_chain, holding_lines, hours_given, hours_without
from twoslots.hoping import go_on, hopes, lost_hours
from twoslots.judging import is_same, judged
from twoslots.needed import fewest_makings, order_of
from twoslots.plans import fewest_hours
from twoslots.programs import Program
from twoslots.redone import redo_chain, redo_plan, redone
from twoslots.repairs import repairs
from twoslots.sources import Source

from tests.programsamples import tells_the_same
from tests.samples import random_expr


def great_source(seed, values=60, reads=12):
    """A source of so many values, all reads and needed terms."""
    rng = random.Random(seed)
    known = [f"r{at}" for at in range(reads)]
    lines = [("read", name) for name in known]
    for at in range(values - reads):
        lines.append(("give", f"x{at}", (rng.choice("fgh") + str(at), rng.choice(known[-14:]), rng.choice(known[-14:]))))
        known.append(f"x{at}")
    return Source(lines + [("tell", name) for name in known[reads:]])


def great_program(seed, source):
    """A hundred hours that name nine hundred cells and make what a source makes, with much in vain."""
    rng = random.Random(seed)
    rows = source.lines()
    cell_of = {name: at for at, name in enumerate(source.reads(), 1)}
    reads = sorted(cell_of.items())
    gives = [line for line in rows if line[0] == "give"]
    hours = []
    free = list(range(20, 920))
    rng.shuffle(free)
    while len(hours) < 100:
        row = []
        if gives and rng.random() < 0.75:
            _, name, expr = gives.pop(0)
            row.append((free.pop(), expr[0], tuple(cell_of[part] for part in expr[1:])))
            new = {name: row[0][0]}
        else:
            new = {}
        many = rng.randint(0, 14)
        row.append((free.pop(), "u", tuple(rng.choice(sorted(cell_of.values())) for _ in range(many))))
        cell_of.update(new)
        hours.append(row)
    return Program(reads, hours, [(name, cell_of[name]) for name in source.tells()])


class Changes(unittest.TestCase):
    def setUp(self):
        self.source = great_source(691)
        self.program = great_program(692, self.source)

    def test_a_program_of_a_hundred_hours(self):
        self.assertEqual(len(self.program.hours()), 100)
        self.assertTrue(is_same(self.source, self.program))
        told = hopes(self.source, self.program)
        self.assertEqual((told[0], told[-1]), (fewest_hours(order_of(self.source)), 100))
        lost = lost_hours(self.source, self.program)
        self.assertEqual(sum(row[1] for row in lost), 100 - told[0])
        self.assertEqual(judged(self.source, self.program), ("hour", lost[0][0]))
        for many in range(0, 101, 20):
            on = go_on(self.source, self.program, many)
            self.assertEqual(len(on.hours()), told[many])
            self.assertTrue(is_same(self.source, on))
        self.assertEqual(wasted(self.program, self.source), [])

    def test_compiled(self):
        made = compiled(self.source)
        self.assertTrue(tells_the_same(self.source, made.program()))
        self.assertEqual(judged(self.source, made.program()), ("best",))

    def test_a_changed_source(self):
        lines = self.source.lines()
        lines[20] = ("give", lines[20][1], ("new", lines[19][1]))
        other = Source(lines)
        self.assertGreater(len(new_terms(self.source, other)), 5)
        self.assertGreater(change_hours(self.source, other), 1)
        self.assertEqual(stays_best(self.source, self.source, compiled(self.source).plan()), compiled(self.source).hours())
        self.assertLess(stays_best(self.source, other, compiled(self.source).plan()), compiled(self.source).hours())
        self.assertIsNotNone(hopes(other, self.program)[-1])
        self.assertEqual(redone(self.source, self.source.reads()), list(range(12, 60)))
        some = self.source.reads()[::2]
        self.assertEqual(len(redo_plan(self.source, some)), sum((len(block) + 1) // 2 for block in redo_chain(self.source, some)))


class Repairs(unittest.TestCase):
    def test_twelve_instructions_of_three_parts_on_ten_cells(self):
        rng = random.Random(693)
        names = "abcdefghij"
        lines = [("read", name) for name in names]
        hours = []
        held = dict(enumerate(names, 1))
        for at in range(6):
            row = []
            for slot in range(2):
                read = tuple(rng.sample(range(1, 11), 3))
                lines.append(("give", f"x{at}y{slot}", (f"f{at}", ) + tuple(held[part] for part in read)))
                row.append((rng.randint(1, 5) + 5 * slot, f"f{at}", read))
            for slot, (cell, _, _) in enumerate(row):
                held[cell] = f"x{at}y{slot}"
            hours.append(row)
        tells = [(f"t{cell}", cell) for cell in range(1, 11)]
        lines += [("give", f"t{cell}", held[cell]) for cell in range(1, 11)]
        source = Source(lines + [("tell", name) for name, _ in tells])
        reads = [(name, cell) for cell, name in enumerate(names, 1)]
        self.assertEqual(repairs(source, Program(reads, hours, tells)), [])
        cell, name, read = hours[2][1]
        other = [cell for cell in range(1, 11) if cell not in read][0]
        hours[2][1] = (cell, name, (read[0], other, read[2]))
        self.assertEqual(repairs(source, Program(reads, hours, tells)), [(3, 2, 2, read[1])])


class Givens(unittest.TestCase):
    def test_forty_lines(self):
        rng = random.Random(694)
        known = [f"r{at}" for at in range(6)]
        lines = [("read", name) for name in known]
        for at in range(24):
            lines.append(("give", f"x{at}", random_expr(rng, known[-8:], 3, [("f", 2), ("g", 2), ("h", 1)])))
            known.append(f"x{at}")
        source = Source(lines + [("tell", f"x{at}") for at in range(14, 24)])
        self.assertEqual(len(source.lines()), 40)
        hours = fewest_hours(order_of(source))
        for line, saved in holding_lines(source):
            self.assertEqual(hours_given(source, line), hours - saved)
            self.assertIsNone(given_chain(source, line))
        self.assertLessEqual(hours_without(source, "x23"), hours)
        found = forcing(source)
        lines = [line for line in source.lines() if line[0] != "tell"]
        self.assertEqual(fewest_hours(order_of(Source(lines + [("tell", name) for name in found]))), hours)
        changed = source.lines()
        changed[10] = ("give", changed[10][1], ("u", changed[10][2]))
        for line, fewer in blamed(source, Source(changed)):
            self.assertEqual((line, fewer), (11, hours))
        self.assertGreater(len(edit_cost(source, Source(changed))[1]), 0)

    def test_ten_lines_that_give_and_ten_tells(self):
        rng = random.Random(695)
        names = [f"x{at}" for at in range(10)]
        lines = [("read", "a"), ("read", "b")]
        known = ["a", "b"]
        for name in names:
            lines.append(("give", name, random_expr(rng, known, 4, [("f", 2), ("g", 2), ("h", 1)])))
            known.append(name)
        source = Source(lines + [("tell", name) for name in names])
        hours = fewest_hours(order_of(source))
        sizes = [len(fewest_given(source, number)) for number in range(hours + 1)]
        self.assertEqual(sizes, sorted(sizes, reverse=True))
        self.assertEqual(sizes[-1], 0)
        self.assertTrue(forcing(source))

    def test_ten_tells_that_force_together(self):
        lines = [("read", "a")]
        for at in range(10):
            lines.append(("give", f"x{at}", (f"f{at}", (f"g{at}", (f"h{at}", "a")))))
        source = Source(lines + [("tell", f"x{at}") for at in range(10)])
        self.assertEqual(fewest_makings(source), 30)
        self.assertEqual(forcing(source), source.tells())
        self.assertEqual(fewest_given(source, 0), list(range(2, 12)))
        self.assertEqual(fewest_given(source, 7), [2, 3, 4, 5, 6, 7])
        self.assertEqual(fewest_given(source, 3), list(range(2, 10)))


if __name__ == "__main__":
    unittest.main()
