"""[63], [64]: what is needed from a state, the hope behind each hour, and lost hours."""

import unittest

from twoslots.compiled import compiled
from twoslots.errors import BadProgram, BadSource, NotSound
from twoslots.hoping import hopes, lost_hours
from twoslots.needed import order_from
from twoslots.orders import Order
from twoslots.programs import Program
from twoslots.sources import Source
from twoslots.sourcetexts import read_source

from tests.hopeoracles import held_behind, hours_by, hours_of_terms, needs, numbers_of, reads_in, sources_and_programs
from tests.hopeoracles import told_terms_of_source
from tests.planoracles import hours_of_chain, is_chain
from tests.programsamples import program_of, tells_the_same
from tests.samples import OBJECTS, T_TEXT, random_sources, source_of

T = read_source(T_TEXT)
LOSES = program_of("read a 1 / read b 2 / 3 = f(1, 2) / 3 = g(3, 3) / 4 = f(1, 2) / 5 = h(3, 4) / tell z 5 / tell x 4")


def hope_by_hand(source, held, hour):
    wanted = needs(told_terms_of_source(source), held)
    return None if reads_in(wanted) else hour + hours_of_terms(wanted)


class Hope(unittest.TestCase):
    def check(self, source, program):
        states = held_behind(program)
        wanted = [hope_by_hand(source, held, hour) for hour, held in enumerate(states)]
        self.assertEqual(hopes(source, program), wanted)
        self.check_lost(source, states, wanted, lost_hours(source, program))
        return wanted

    def check_lost(self, source, states, wanted, told):
        """told by the words of [64], its chains being right for what is needed then."""
        lost = [hour for hour, many in enumerate(wanted) if many is None]
        last = lost[0] if lost else len(wanted)
        rows = [(hour, wanted[hour] - wanted[hour - 1]) for hour in range(1, last) if wanted[hour] > wanted[hour - 1]]
        if lost:
            names = reads_in(needs(told_terms_of_source(source), states[last]))
            self.assertEqual(told.pop(), (last, None, names[0]))
        self.assertEqual([row[:2] for row in told], rows)
        for hour, _, chain in told:
            order = order_from(source, numbers_of(source, states[hour]))
            self.assertTrue(is_chain(order, chain))
            self.assertEqual(hours_of_chain(chain), wanted[hour] - hour)

    def test_the_example(self):
        self.assertEqual(hopes(T, LOSES), [3, 3, 4, 4, 4])
        self.assertEqual(lost_hours(T, LOSES), [(2, 1, [[0], [1]])])
        self.assertEqual(hopes(source_of("read a / read b / w = k(f(a, b)) / tell w"), LOSES), [2, 2, 4, 4, 5])

    def test_hours_with_nothing(self):
        program = program_of("read a 1 / read b 2 / - / 3 = f(1, 2) / - / - / 4 = g(3, 3) / 5 = h(4, 3) / - / tell z 5 / tell x 3")
        self.assertEqual(hopes(T, program), [3, 4, 4, 5, 6, 6, 6, 7])
        self.assertEqual([row[:2] for row in lost_hours(T, program)], [(1, 1), (3, 1), (4, 1), (7, 1)])
        self.assertEqual(lost_hours(T, program)[-1], (7, 1, []))

    def test_reads_that_are_lost(self):
        program = program_of("read a 1 / read b 2 / 1 = f(2, 1) | 2 = f(2, 1) / 3 = f(1, 2) / tell x 3")
        self.assertEqual(hopes(T, program), [3, None, None])
        self.assertEqual(lost_hours(T, program), [(1, None, "a")])
        self.assertEqual(lost_hours(T, program_of("read a 1 / 2 = f(1, 1)")), [(0, None, "b")])
        self.assertEqual(lost_hours(T, Program([], [], [])), [(0, None, "a")])
        self.assertEqual(hopes(T, Program([], [], [])), [None])
        source = source_of("read b / read a / x = f(a) / tell b / tell x")
        self.assertEqual(lost_hours(source, program_of("read a 1 / read b 2 / - / 1 = f(1) / 2 = f(1)")), [(1, 1, [[0]]), (3, None, "b")])

    def test_two_hours_are_lost_where_what_is_needed_is_written_over(self):
        source = source_of("read a / x = f(f(f(a))) / tell x")
        program = program_of("read a 1 / 2 = f(1) / 2 = f(2) / 2 = k() / 3 = f(1)")
        self.assertEqual(hopes(source, program), [3, 3, 3, 6, 6])
        self.assertEqual(lost_hours(source, program), [(3, 3, [[0], [1], [2]])])

    def test_what_lies_in_two_cells_is_held_still(self):
        source = source_of("read a / x = f(a) / y = g(x) / tell x / tell y")
        program = program_of("read a 1 / 2 = f(1) | 3 = f(1) / 2 = g(3) / 3 = g(3) / tell x 3 / tell y 2")
        self.assertEqual(hopes(source, program), [2, 2, 2, 4])

    def test_operations_and_names_that_the_source_has_not(self):
        program = program_of("read q 1 / read a 2 / read b 3 / 4 = u(1) | 1 = f(2, 3) / 5 = g(1, 1) | 4 = f(1, 4)")
        self.assertEqual(hopes(T, program), [3, 3, 3])
        self.assertEqual(hopes(Source([]), program), [0, 1, 2])
        self.assertEqual([row[:2] for row in lost_hours(Source([]), program)], [(1, 1), (2, 1)])

    def test_random_programs(self):
        lost = 0
        for source, program in sources_and_programs(621, 60):
            lost += None in self.check(source, program)
        self.assertGreater(lost, 5)

    def test_few_cells(self):
        lost = 0
        for source, program in sources_and_programs(622, 60, cells=2, hours=6):
            lost += None in self.check(source, program)
        self.assertGreater(lost, 20)

    def test_hope_never_falls_and_lost_hours_add_up(self):
        many = 0
        for source, program in sources_and_programs(623, 80, cells=7, hours=6):
            told = hopes(source, program)
            rest = [hope for hope in told if hope is not None]
            self.assertEqual(rest, sorted(rest))
            self.assertEqual(told, rest + [None] * (len(told) - len(rest)))
            if tells_the_same(source, program):
                many += 1
                self.assertEqual(told[-1], len(program.hours()))
                self.assertEqual(sum(row[1] for row in lost_hours(source, program)), len(program.hours()) - hours_by(source))
        self.assertGreater(many, 30)

    def test_what_is_compiled_loses_nothing(self):
        for source in random_sources(624, 40):
            made = compiled(source)
            self.assertEqual(hopes(source, made.program()), [made.hours()] * (made.hours() + 1))
            self.assertEqual(lost_hours(source, made.program()), [])

    def test_told_lists_are_new(self):
        lost_hours(T, LOSES)[0][2][0].append(7)
        hopes(T, LOSES).clear()
        self.assertEqual(lost_hours(T, LOSES), [(2, 1, [[0], [1]])])

    def test_the_same_again(self):
        for source, program in sources_and_programs(625, 20):
            other = Program(tuple(program.reads()), tuple(program.hours()), tuple(program.tells()))
            self.assertEqual(lost_hours(source, program), lost_hours(Source(source.lines()), other))

    def test_errors_in_order(self):
        wrong = program_of("1 = f(1)")
        for thing in OBJECTS + [Order(0, [])]:
            for ask in (hopes, lost_hours):
                with self.assertRaises(BadSource) as caught:
                    ask(thing, None)
                self.assertIs(caught.exception.thing, thing)
                with self.assertRaises(BadProgram) as caught:
                    ask(T, thing)
                self.assertIs(caught.exception.thing, thing)
                with self.assertRaises(NotSound) as caught:
                    ask(T, wrong)
                self.assertEqual(caught.exception.fault, (1, 1, "empty", 1))


if __name__ == "__main__":
    unittest.main()
