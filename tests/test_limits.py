"""[14], [22], [36]: what is asked at the limits that the document tells."""

import random
import unittest

from twoslots.carried import are_ways, carried_terms, carried_ways, is_carried
from twoslots.makings import makings
from twoslots.needed import fewest_makings, needed_terms, order_from, order_of, wanted_terms, why_idle, why_needed
from twoslots.orders import Order
from twoslots.partings import is_parting_box, parting_box, values_told
from twoslots.places import expr_at, places
from twoslots.plaintexts import plain_source
from twoslots.programs import Program
from twoslots.programtexts import program_fault, program_goes_on, program_text, read_program
from twoslots.sameness import is_unlike_paper, mean_same, unlike_paper
from twoslots.sources import Source
from twoslots.sourcetexts import goes_on, read_source, source_fault, source_text
from twoslots.terms import places_of, term_rows, told_numbers, written_out

from tests.samples import random_expr


def deep_expr(name, depth):
    expr = name
    for _ in range(depth):
        expr = ("f", expr)
    return expr


def great_source(seed=151):
    """Two hundred lines, nearly twenty thousand signs, exprs up to thirty deep."""
    rng = random.Random(seed)
    operations = [("f", 2), ("g", 3), ("h", 1), ("m", 4)]
    known = [f"r{at}" for at in range(60)]
    lines = [("read", name) for name in known]
    for at in range(120):
        expr = ()
        while not 100 < len(str(expr)) < 350:
            expr = random_expr(rng, known[-40:], 5, operations)
        lines.append(("give", f"x{at}", expr if at % 4 else ("f", deep_expr(known[-1], 29), expr)))
        known.append(f"x{at}")
    return Source(lines + [("tell", name) for name in rng.sample(known, 20)])


class Sources(unittest.TestCase):
    def setUp(self):
        self.source = great_source()

    def test_texts(self):
        text = source_text(self.source)
        self.assertEqual(len(self.source.lines()), 200)
        self.assertGreater(len(text), 12000)
        self.assertLess(len(text), 20000)
        self.assertEqual(read_source(text), self.source)
        self.assertIsNone(source_fault(text))
        for many in range(0, len(text), 997):
            whole = goes_on(text[:many])
            self.assertTrue(whole.startswith(text[:many]))
            self.assertIsNone(source_fault(whole))
        self.assertEqual(source_fault(text + "tell "), (201, 6))

    def test_a_text_of_twenty_thousand_signs(self):
        lines = [("read", "a")] + [("give", "x", ("f",) + ("a",) * 31)] * 198 + [("tell", "x")]
        text = source_text(Source(lines))
        self.assertGreater(len(text), 19000)
        self.assertEqual(read_source(text).lines(), lines)
        self.assertEqual(source_fault(text[:-2] + "y"), (200, 6))

    def test_places(self):
        text = source_text(self.source).split("\n")
        rows = places(self.source)
        for line, first, last, expr in rows[::37]:
            shown = source_text(Source(self.source.lines()[:line - 1] + [("give", "q", expr)])).split("\n")[line - 1]
            self.assertEqual(shown, "q = " + text[line - 1][first - 1:last])
            self.assertEqual(expr_at(self.source, line, last)[2], last)

    def test_terms(self):
        rows = term_rows(self.source)
        self.assertEqual(len([row for row in rows if row[0] == "read"]), 60)
        found = [place for number in range(len(rows)) for place in places_of(self.source, number)]
        self.assertEqual(sorted(found), [row[:3] for row in places(self.source)])
        for number in range(0, len(rows), 10):
            self.assertEqual(why_needed(self.source, number) is None, why_idle(self.source, number) is not None)
            if rows[number][0] != "read":
                parts = sum(written_out(self.source, part) for part in rows[number][1])
                self.assertEqual(written_out(self.source, number), parts + 1)
        self.assertEqual(len(told_numbers(self.source)), 20)

    def test_needed_and_made(self):
        needed = needed_terms(self.source)
        firsts = sorted(row[3] for row in makings(self.source) if row[4] == "first")
        self.assertEqual(firsts, needed)
        self.assertEqual(fewest_makings(self.source), len(needed))
        reads = list(range(60))
        self.assertEqual(wanted_terms(self.source, reads), needed)
        self.assertEqual(order_from(self.source, reads), order_of(self.source))

    def test_plain_ones_and_papers(self):
        plain = plain_source(self.source)
        self.assertTrue(mean_same(self.source, plain))
        self.assertEqual(plain_source(plain), plain)
        lines = self.source.lines()
        last = [at for at, line in enumerate(lines) if line[0] == "give"][-1]
        name = lines[last][1]
        ends = [] if name in self.source.tells() else [("tell", name)]
        other = Source(lines[:last] + [("give", name, ("other", lines[last][2]))] + lines[last + 1:] + ends)
        paper = unlike_paper(Source(lines + ends), other)
        self.assertTrue(is_unlike_paper(Source(lines + ends), other, paper))
        self.assertTrue(is_parting_box(Source(lines + ends), other, parting_box(Source(lines + ends), other)))

    def test_carried(self):
        for line in range(0, 201, 20):
            carried = carried_terms(self.source, line)
            ways = carried_ways(self.source, line)
            self.assertTrue(is_carried(self.source, line, carried))
            self.assertTrue(are_ways(self.source, line, ways))
            self.assertEqual(len(carried), len(ways))


class DeepTerms(unittest.TestCase):
    def test_thirty_deep_in_each_line(self):
        lines = [("read", "a"), ("give", "x", deep_expr("a", 30))]
        lines += [("give", "x", deep_expr("x", 30)) for _ in range(196)] + [("tell", "x"), ("tell", "a")]
        source = Source(lines)
        rows = term_rows(source)
        self.assertEqual(len(rows), 197 * 30 + 1)
        self.assertEqual(why_needed(source, 0), (0, [0] * (len(rows) - 1)))
        self.assertEqual(written_out(source, len(rows) - 1), len(rows) - 1)
        self.assertTrue(mean_same(source, plain_source(source)))
        other = Source([("read", "a"), ("give", "x", deep_expr("a", 31))] + lines[2:])
        self.assertEqual(unlike_paper(source, other), ("path", 0, [0] * (len(rows) - 1)))
        self.assertTrue(is_parting_box(source, other, parting_box(source, other)))
        self.assertEqual(carried_terms(source, 200), [0])
        ways = carried_ways(source, 100)
        self.assertTrue(are_ways(source, 100, ways))
        self.assertEqual(len(ways), 1)

    def test_an_expr_a_hundred_deep(self):
        source = Source([("read", "a"), ("give", "x", deep_expr("a", 100)), ("tell", "x")])
        self.assertEqual(read_source(source_text(source)), source)
        self.assertEqual(len(places(source)), 101)


class Boxes(unittest.TestCase):
    def test_five_hundred_rows(self):
        rows = [("f", [at, at], at + 1) for at in range(500)]
        lines = [("read", "a")] + [("give", "a", ("f", "a", "a"))] * 198 + [("tell", "a")]
        self.assertEqual(values_told(Source(lines), (rows, [("a", 0)], -1)), [("a", 198)])
        self.assertEqual(values_told(Source(lines), (rows[:100], [("a", 0)], -1)), [("a", -1)])


class Programs(unittest.TestCase):
    def test_two_hundred_hours(self):
        rng = random.Random(152)
        reads = [(f"r{at}", at) for at in range(1, 101)]
        hours = [[(rng.randint(1, 999), rng.choice("fgh"), tuple(rng.randint(1, 999) for _ in range(rng.randint(0, 4))))
                  for _ in range(rng.randint(0, 2))] for _ in range(200)]
        tells = [(f"t{at}", rng.randint(1, 999)) for at in range(50)]
        program = Program(reads, hours, tells)
        text = program_text(program)
        self.assertEqual(read_program(text), program)
        self.assertEqual(read_program(text).hours(), hours)
        self.assertIsNone(program_fault(text))
        for many in range(0, len(text), 499):
            whole = program_goes_on(text[:many])
            self.assertTrue(whole.startswith(text[:many]))
            self.assertIsNone(program_fault(whole))


class Orders(unittest.TestCase):
    def test_two_hundred_things(self):
        rng = random.Random(153)
        pairs = [(one, other) for one in range(200) for other in range(one + 1, 200)]
        rng.shuffle(pairs)
        order = Order(200, pairs)
        self.assertEqual(order.direct(), [(at, at + 1) for at in range(199)])
        self.assertEqual(order.levels(), [[at] for at in range(200)])
        few = sorted(pairs[:600])
        order = Order(200, pairs[:600])
        self.assertEqual(Order(200, order.direct()), order)
        self.assertEqual(order, Order(200, few))
        self.assertEqual(sum(len(order.ahead(at)) for at in range(200)), sum(len(order.behind(at)) for at in range(200)))
        self.assertEqual(sorted(thing for level in order.levels() for thing in level), list(range(200)))


if __name__ == "__main__":
    unittest.main()
