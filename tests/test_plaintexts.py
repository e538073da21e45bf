"""[20]: one text for each meaning."""

import unittest

from twoslots.errors import BadSource
from twoslots.plaintexts import plain_source
from twoslots.programs import Program
from twoslots.sameness import mean_same
from twoslots.sources import Source
from twoslots.sourcetexts import read_source, source_text

from tests.samples import OBJECTS, T_TEXT, random_sources, source_of, term_parts, terms_within, written


def plain_lines(source):
    """The lines of the plain source, told from written out terms."""
    tells = written(source)[2]
    reads = sorted(source.reads())
    order = [("read", name) for name in reads]

    def meet(term):
        for part in term_parts(term):
            meet(part)
        if term not in order:
            order.append(term)

    for _, term in tells:
        meet(term)
    barred = reads + [name for name, _ in tells]
    names = [name for name in (f"n{at}" for at in range(len(order) + len(barred))) if name not in barred]
    name_of = dict(zip(order, names))
    lines = [("read", name) for name in reads]
    for term in order:
        parts = tuple(name_of[part] for part in term_parts(term))
        lines.append(("give", name_of[term], term[1] if term[0] == "read" else (term[0],) + parts))
    for name, term in tells:
        lines.extend([("give", name, name_of[term]), ("tell", name)])
    return lines


class PlainSources(unittest.TestCase):
    def test_the_example(self):
        self.assertEqual(source_text(plain_source(read_source(T_TEXT))), (
            "read a\nread b\nn0 = a\nn1 = b\nn2 = f(n0, n1)\nn3 = g(n2, n2)\nn4 = h(n3, n2)\n"
            "z = n4\ntell z\nx = n2\ntell x\n"))

    def test_the_empty_source(self):
        self.assertEqual(plain_source(Source([])), Source([]))
        self.assertEqual(plain_source(source_of("x = f()")), Source([]))

    def test_names_that_are_taken(self):
        source = source_of("read n1 / read n0 / n3 = f(n0, n1) / n5 = n3 / tell n3 / tell n0 / n2 = g(n3)")
        self.assertEqual(plain_source(source), source_of(
            "read n0 / read n1 / n2 = n0 / n4 = n1 / n5 = f(n2, n4) / n3 = n5 / tell n3 / n0 = n2 / tell n0"))

    def test_idle_terms_and_unused_reads(self):
        source = source_of("read b / y = g(b) / x = f(b) / read a / x = f(k()) / tell x")
        self.assertEqual(plain_source(source), source_of(
            "read a / read b / n0 = a / n1 = b / n2 = k() / n3 = f(n2) / x = n3 / tell x"))

    def test_the_order_of_the_tells(self):
        source = source_of("read a / x = f(a) / y = g(a, h(a)) / tell y / tell x")
        self.assertEqual(plain_source(source), source_of(
            "read a / n0 = a / n1 = h(n0) / n2 = g(n0, n1) / n3 = f(n0) / y = n2 / tell y / x = n3 / tell x"))

    def test_random_sources(self):
        for source in random_sources(91, 300, lines=12):
            plain = plain_source(source)
            self.assertEqual(plain.lines(), plain_lines(source))
            self.assertTrue(mean_same(source, plain))
            self.assertEqual(plain_source(plain), plain)
            operations = sum(line[0] == "give" and not isinstance(line[2], str) for line in plain.lines())
            wanted = set()
            for _, term in written(source)[2]:
                wanted |= {part for part in terms_within(term) if part[0] != "read"}
            self.assertEqual(operations, len(wanted))

    def test_same_meaning_just_if_plain_ones_are_equal(self):
        rows = random_sources(92, 80, lines=6, names="ab", depth=1)
        plains = [plain_source(source) for source in rows]
        for one, plain in zip(rows, plains):
            for other, against in zip(rows, plains):
                self.assertEqual(mean_same(one, other), plain == against)
                self.assertEqual(plain == against, source_text(plain) == source_text(against))

    def test_a_new_line_that_is_asked_nowhere(self):
        source = read_source(T_TEXT)
        for at in range(2, 8):
            lines = source.lines()[:at] + [("give", "new", ("q", "a", ("f", "a", "b")))] + source.lines()[at:]
            self.assertEqual(plain_source(Source(lines)), plain_source(source))

    def test_no_source(self):
        for thing in OBJECTS + [Program([], [], [])]:
            with self.assertRaises(BadSource) as caught:
                plain_source(thing)
            self.assertIs(caught.exception.thing, thing)


if __name__ == "__main__":
    unittest.main()
