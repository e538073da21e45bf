"""[62]: what a source is compiled to."""

import unittest

from twoslots.cells import fewest_cells
from twoslots.compiled import Compiled, compiled
from twoslots.errors import BadSource
from twoslots.needed import order_of
from twoslots.orders import Order
from twoslots.plaintexts import plain_source
from twoslots.programs import Program
from twoslots.sources import Source
from twoslots.sourcetexts import read_source

from tests.hopeoracles import hours_by, needed_by, numbers_of
from tests.planoracles import hours_of_chain, is_chain, is_plan
from tests.programsamples import P, done, fault_by_hand, tells_the_same
from tests.samples import OBJECTS, T_TEXT, random_sources, source_of, term_list

T = read_source(T_TEXT)


def cells_in(program):
    found = {cell for _, cell in program.reads() + program.tells()}
    for hour in program.hours():
        found |= {cell for cell, _, _ in hour} | {part for _, _, read in hour for part in read}
    return sorted(found)


class Compilations(unittest.TestCase):
    def check(self, source):
        made = compiled(source)
        program = made.program()
        self.assertIsInstance(made, Compiled)
        self.assertEqual(made.source(), source)
        self.assertEqual([name for name, _ in program.reads()], source.reads())
        self.assertIsNone(fault_by_hand(program))
        self.assertTrue(tells_the_same(source, program))
        order = order_of(source)
        self.assertTrue(is_plan(order, made.plan()))
        self.assertTrue(is_chain(order, made.chain()))
        self.assertEqual([len(made.plan()), hours_of_chain(made.chain()), len(program.hours())], [made.hours()] * 3)
        self.assertEqual(cells_in(program), list(range(1, fewest_cells(source, made.plan()) + 1)))
        self.check_makings(source, program, made.plan())
        return made

    def check_makings(self, source, program, plan):
        """Each needed term is made once, in the hour that the plan tells."""
        numbers = numbers_of(source, needed_by(source))
        terms = term_list(source)
        states = done(program)
        for at, hour in enumerate(program.hours()):
            made = sorted(terms.index(states[at + 1][cell][0]) for cell, _, _ in hour)
            self.assertEqual(made, [numbers[thing] for thing in plan[at]])

    def test_the_text_t(self):
        made = self.check(T)
        self.assertEqual((made.hours(), made.plan(), made.chain()), (3, [[0], [1], [2]], [[0], [1], [2]]))
        self.assertEqual(len(cells_in(made.program())), 2)

    def test_the_fewest_hours(self):
        for source in random_sources(611, 150, lines=10):
            if len(needed_by(source)) <= 9:
                self.assertEqual(self.check(source).hours(), hours_by(source))

    def test_reads_that_nothing_wants_and_told_reads(self):
        self.check(source_of("read a / read b / read c / x = f(b) / tell c / tell x"))
        self.check(source_of("read a / read b / tell b"))
        made = self.check(source_of("read b / read a"))
        self.assertEqual((made.program().hours(), made.plan(), made.chain(), made.hours()), ([], [], [], 0))
        self.assertEqual(len(cells_in(made.program())), 2)

    def test_reads_in_the_order_of_the_source(self):
        made = self.check(source_of("read c / read a / x = f(a, c) / read b / tell x / tell b"))
        self.assertEqual([name for name, _ in made.program().reads()], ["c", "a", "b"])

    def test_nothing_told(self):
        made = self.check(Source([]))
        self.assertEqual(made.program(), Program([], [], []))
        self.assertEqual(self.check(source_of("read a / x = f(a)")).hours(), 0)

    def test_names_given_anew_and_terms_told_by_two_names(self):
        self.check(source_of("read a / a = f(a) / x = a / a = f(a) / tell x / tell a / y = x / tell y"))
        self.check(source_of("a = k() / tell a / a = g(a, a) / b = a / tell b"))

    def test_one_cell_is_enough(self):
        made = self.check(source_of("read a / x = f(f(f(a))) / tell x"))
        self.assertEqual(cells_in(made.program()), [1])

    def test_wide_sources(self):
        lines = [("read", f"r{at}") for at in range(8)]
        lines += [("give", f"x{at}", ("f", f"r{at}", f"r{(at + 1) % 8}")) for at in range(8)]
        lines += [("give", f"y{at}", ("g", f"x{at}", f"x{(at + 3) % 8}")) for at in range(8)]
        made = self.check(Source(lines + [("tell", f"y{at}") for at in range(8)]))
        self.assertEqual(made.hours(), 8)

    def test_equal_if_the_sources_are(self):
        self.assertEqual(compiled(T), compiled(read_source(T_TEXT)))
        self.assertFalse(compiled(T) != compiled(T))
        for other in (plain_source(T), Source([]), source_of("read a / tell a")):
            self.assertNotEqual(compiled(T), compiled(other))
        for thing in OBJECTS + [T, P, compiled(T).program(), order_of(T)]:
            self.assertFalse(compiled(T) == thing)
            self.assertTrue(compiled(T) != thing)

    def test_the_same_for_equal_sources(self):
        for source in random_sources(612, 30):
            one = compiled(source)
            other = compiled(Source([list(line) for line in source.lines()]))
            self.assertEqual((one.program(), one.plan(), one.chain()), (other.program(), other.plan(), other.chain()))

    def test_told_lists_are_new(self):
        made = compiled(T)
        made.plan()[0].append(7)
        made.plan().clear()
        made.chain()[0].append(7)
        made.chain().clear()
        self.assertEqual((made.plan(), made.chain()), ([[0], [1], [2]], [[0], [1], [2]]))

    def test_no_source(self):
        for thing in OBJECTS + [Order(0, []), compiled(T)]:
            with self.assertRaises(BadSource) as caught:
                compiled(thing)
            self.assertIs(caught.exception.thing, thing)


if __name__ == "__main__":
    unittest.main()
