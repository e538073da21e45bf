"""[60]: changes of one thing by which a program means the same as a source."""

import itertools
import random
import unittest

from twoslots.errors import BadProgram, BadSource
from twoslots.orders import Order
from twoslots.programs import Program
from twoslots.repairs import repairs
from twoslots.sources import Source
from twoslots.sourcetexts import read_source

from tests.hopeoracles import random_program_for, told_terms_of_source
from tests.programsamples import NARROW, P, fault_by_hand, program_of, random_programs, tells_the_same
from tests.samples import OBJECTS, T_TEXT, random_sources, source_of, term_list

T = read_source(T_TEXT)
NEAR = "read a 1 / read b 2 / 1 = f(1, 2) / 2 = {} / {} / tell z 2 / tell x 1"


def means(source, program):
    return fault_by_hand(program) is None and tells_the_same(source, program)


def cells_of(program):
    cells = {cell for _, cell in program.reads() + program.tells()}
    for hour in program.hours():
        for cell, _, read in hour:
            cells |= {cell} | set(read)
    return sorted(cells)


def rank(part):
    return {"cell": 0, "operation": 1}.get(part, part + 1 if isinstance(part, int) else 0)


def all_changes(source, program):
    """From each change of one thing to the program with it, by the words of [60]."""
    cells = cells_of(program)
    words = {(term[0], len(term) - 1) for term in term_list(source) if term[0] != "read"}
    reads, hours, tells = program.reads(), program.hours(), program.tells()
    found = {}
    for at, cell in itertools.product(range(len(reads)), cells):
        if cell not in [other for _, other in reads]:
            new = reads[:at] + [(reads[at][0], cell)] + reads[at + 1:]
            found[(0, at + 1, "cell", cell)] = Program(new, hours, tells)
    for at, hour in enumerate(hours):
        for slot, (cell, name, read) in enumerate(hour):
            others = [("cell", value, (value, name, read)) for value in cells if value != cell]
            others += [("operation", word, (cell, word, read)) for word, many in words if many == len(read) and word != name]
            others += [(part + 1, value, (cell, name, read[:part] + (value,) + read[part + 1:]))
                       for part in range(len(read)) for value in cells if value != read[part]]
            for part, value, made in others:
                row = hour[:slot] + [made] + hour[slot + 1:]
                found[(at + 1, slot + 1, part, value)] = Program(reads, hours[:at] + [row] + hours[at + 1:], tells)
    for at, cell in itertools.product(range(len(tells)), cells):
        if cell != tells[at][1]:
            new = tells[:at] + [(tells[at][0], cell)] + tells[at + 1:]
            found[(len(hours) + 1, at + 1, "cell", cell)] = Program(reads, hours, new)
    return found


class Repairs(unittest.TestCase):
    def check(self, source, program):
        told = repairs(source, program)
        if means(source, program):
            self.assertEqual(told, [])
            return told
        changes = all_changes(source, program)
        wanted = [change for change, other in changes.items() if means(source, other)]
        self.assertEqual(told, sorted(wanted, key=lambda row: (row[0], row[1], rank(row[2]), row[3])))
        return told

    def test_the_examples(self):
        self.assertEqual(repairs(T, program_of(NEAR.format("g(1, 2)", "2 = h(2, 1)"))), [(2, 1, 2, 1)])
        told = repairs(T, program_of(NEAR.format("g(1, 1)", "3 = h(2, 1)")))
        self.assertEqual(told, [(3, 1, "cell", 2), (4, 1, "cell", 3)])

    def test_what_means_the_same_by_now(self):
        self.assertEqual(repairs(T, NARROW), [])
        self.assertEqual(repairs(T, P), [])
        self.assertEqual(repairs(Source([]), Program([], [], [])), [])

    def test_programs_that_are_not_sound(self):
        self.assertEqual(repairs(T, program_of(NEAR.format("g(3, 1)", "2 = h(2, 1)"))), [(2, 1, 1, 1)])
        self.assertEqual(repairs(T, program_of(NEAR.format("g(3, 3)", "2 = h(2, 1)"))), [])
        source = source_of("x = k() / y = m() / tell x / tell y")
        both = program_of("1 = k() | 1 = m() / tell x 1 / tell y 2")
        self.assertEqual(repairs(source, both), [(1, 2, "cell", 2)])

    def test_operations_of_as_many_parts_that_stand_in_the_source(self):
        source = source_of("read a / u = g(a) / v = h(a, a) / x = f(a) / tell x")
        self.assertEqual(repairs(source, program_of("read a 1 / 1 = g(1) / tell x 1")), [(1, 1, "operation", "f")])
        self.assertEqual(repairs(source, program_of("read a 1 / 1 = f(1, 1) / tell x 1")), [])
        idle = source_of("read a / x = a / u = f(a, a) / u = f(a) / tell x / x = g(a)")
        self.assertEqual(repairs(idle, program_of("read a 1 / 1 = g(1) / tell x 1")), [])

    def test_reads_and_tells(self):
        source = source_of("read a / read b / x = f(a) / tell x / tell b")
        program = program_of("read a 3 / read b 2 / 1 = f(4) / tell x 1 / tell b 2")
        self.assertEqual(repairs(source, program), [(0, 1, "cell", 4), (1, 1, 1, 3)])
        program = program_of("read a 3 / read b 2 / 1 = f(2) / tell x 1 / tell b 3")
        self.assertEqual(repairs(source, program), [])
        program = program_of("read a 3 / read b 2 / 1 = f(3) / tell x 1 / tell b 3")
        self.assertEqual(repairs(source, program), [(2, 2, "cell", 2)])

    def test_a_read_gets_no_cell_of_another_read(self):
        source = source_of("read a / read b / tell a")
        self.assertEqual(repairs(source, program_of("read a 1 / read b 2 / tell a 2")), [(1, 1, "cell", 1)])
        self.assertEqual(repairs(source, program_of("read a 1 / read b 2 / tell a 3")), [(0, 1, "cell", 3), (1, 1, "cell", 1)])

    def test_tells_that_no_change_mends(self):
        for text in ("read a 1 / read b 2 / 1 = f(1, 2) / 2 = g(1, 1) / 2 = h(2, 1) / tell z 2",
                     "read a 1 / read b 2 / 1 = f(1, 2) / 2 = g(1, 1) / 2 = h(2, 1) / tell x 1 / tell z 2", "tell z 1 / tell x 1"):
            self.assertEqual(repairs(T, program_of(text)), [])

    def test_one_thing_otherwise(self):
        rng = random.Random(601)
        mended = 0
        for source in random_sources(601, 40, lines=7):
            program = random_program_for(rng, source, cells=4, hours=4)
            changes = all_changes(source, program)
            for other in [program] + rng.sample(list(changes.values()), min(4, len(changes))):
                mended += len(self.check(source, other))
        self.assertGreater(mended, 20)

    def test_right_programs_with_one_thing_otherwise(self):
        rng = random.Random(602)
        found = 0
        for program in random_programs(603, 60, cells=4, hours=4):
            lines = [("read", name) for name, _ in program.reads()]
            source = self.source_that_tells(lines, program)
            changes = all_changes(source, program)
            for change in rng.sample(sorted(changes, key=str), min(3, len(changes))):
                other = changes[change]
                told = self.check(source, other)
                back = [row for row in told if row[:3] == change[:3]]
                if not means(source, other) and change[0] > 0:
                    self.assertTrue(back or self.is_barred(source, program, change), (change, told))
                found += len(told)
        self.assertGreater(found, 60)

    def source_that_tells(self, lines, program):
        """A source with the terms that a program tells, an expr for each."""
        from tests.programsamples import told_terms_of

        def expr(term):
            return term[1] if term[0] == "read" else (term[0],) + tuple(expr(part) for part in term[1:])

        for name, term in told_terms_of(program):
            lines = lines + [("give", "t" + name, expr(term))]
        told = [("give", name, "t" + name) for name, _ in program.tells()]
        return Source(lines + told + [("tell", name) for name, _ in program.tells()])

    def is_barred(self, source, program, change):
        """Whether what stood there can not be told: a cell, or an operation, that stands nowhere else."""
        hour, slot, part, value = change
        other = all_changes(source, program)[change]
        if hour > len(program.hours()):
            return program.tells()[slot - 1][1] not in cells_of(other)
        cell, name, read = program.hours()[hour - 1][slot - 1]
        if part == "operation":
            return name not in [term[0] for term in term_list(source)]
        return (cell if part == "cell" else read[part - 1]) not in cells_of(other)

    def test_whatever_is_told_mends_it_alone(self):
        self.assertEqual(len(all_changes(T, NARROW)), 17)
        for change, other in all_changes(T, NARROW).items():
            if not means(T, other):
                self.assertTrue(any(row[:3] == change[:3] for row in self.check(T, other)), change)

    def test_the_order_of_changes(self):
        source = source_of("read a / read b / x = g(a) / y = h(x) / tell x")
        program = program_of("read a 1 / read b 3 / 2 = g(1) / 2 = h(1) / tell x 2")
        self.assertEqual(repairs(source, program), [(2, 1, "cell", 1), (2, 1, "cell", 3), (2, 1, "operation", "g")])
        program = program_of("read a 1 / read b 3 / 2 = g(1) / 2 = g(3) / tell x 2")
        self.assertEqual(repairs(source, program), [(2, 1, "cell", 1), (2, 1, "cell", 3), (2, 1, 1, 1)])
        program = program_of("read a 11 / 2 = g(11) | 9 = g(11) / tell x 11")
        self.assertEqual(repairs(source, program), [(1, 1, "cell", 11), (1, 2, "cell", 11), (2, 1, "cell", 2), (2, 1, "cell", 9)])

    def test_errors_in_order(self):
        wrong = program_of("1 = f(1)")
        self.assertEqual(repairs(T, wrong), [])
        for thing in OBJECTS + [Order(0, [])]:
            with self.assertRaises(BadSource) as caught:
                repairs(thing, None)
            self.assertIs(caught.exception.thing, thing)
            with self.assertRaises(BadProgram) as caught:
                repairs(T, thing)
            self.assertIs(caught.exception.thing, thing)

    def test_told_lists_are_new(self):
        program = program_of(NEAR.format("g(1, 2)", "2 = h(2, 1)"))
        repairs(T, program).clear()
        self.assertEqual(repairs(T, program), [(2, 1, 2, 1)])
        self.assertEqual(program.hours()[1], [(2, "g", (1, 2))])
        self.assertEqual(told_terms_of_source(T), told_terms_of_source(read_source(T_TEXT)))


if __name__ == "__main__":
    unittest.main()
