"""[10]: places."""

import unittest

from twoslots.errors import BadSource
from twoslots.places import expr_at, places
from twoslots.sources import Source
from twoslots.sourcetexts import read_source, source_text

from tests.samples import OBJECTS, T_TEXT, random_sources


def text_of(expr):
    if isinstance(expr, str):
        return expr
    return expr[0] + "(" + ", ".join(text_of(part) for part in expr[1:]) + ")"


def inner_exprs(expr):
    """An expr and all within it, each one ahead of those within it, left to right."""
    found = [expr]
    if not isinstance(expr, str):
        for part in expr[1:]:
            found.extend(inner_exprs(part))
    return found


class Places(unittest.TestCase):
    def test_the_example(self):
        rows = places(read_source(T_TEXT))
        self.assertEqual([row for row in rows if row[0] == 4], [
            (4, 5, 17, ("g", "x", ("f", "a", "b"))), (4, 7, 7, "x"), (4, 10, 16, ("f", "a", "b")),
            (4, 12, 12, "a"), (4, 15, 15, "b")])
        self.assertEqual([row for row in rows if row[0] != 4], [
            (3, 5, 11, ("f", "a", "b")), (3, 7, 7, "a"), (3, 10, 10, "b"),
            (5, 5, 11, ("h", "y", "x")), (5, 7, 7, "y"), (5, 10, 10, "x")])

    def test_operations_on_nothing_and_long_names(self):
        source = read_source("read name\nlonger = operate(f(), name, g(f()))\nx = longer\nk = f()\n")
        self.assertEqual(places(source), [
            (2, 10, 35, ("operate", ("f",), "name", ("g", ("f",)))), (2, 18, 20, ("f",)), (2, 23, 26, "name"),
            (2, 29, 34, ("g", ("f",))), (2, 31, 33, ("f",)), (3, 5, 10, "longer"), (4, 5, 7, ("f",))])

    def test_what_stands_there_is_the_expr(self):
        for source in random_sources(21, 150, depth=3):
            lines = source_text(source).split("\n")
            rows = places(source)
            self.assertIsInstance(rows, list)
            for line, first, last, expr in rows:
                self.assertEqual(lines[line - 1][first - 1:last], text_of(expr))
            self.assertEqual([(row[0], row[3]) for row in rows], [
                (at, expr) for at, line in enumerate(source.lines(), 1) if line[0] == "give"
                for expr in inner_exprs(line[2])])
            self.assertEqual(rows, sorted(rows, key=lambda row: (row[0], row[1], -row[2])))

    def test_one_lies_within_the_other_or_apart(self):
        for source in random_sources(22, 40, depth=3):
            rows = places(source)
            for one in rows:
                for other in rows:
                    if one[0] == other[0]:
                        mine = set(range(one[1], one[2] + 1))
                        others = set(range(other[1], other[2] + 1))
                        self.assertTrue(mine <= others or others <= mine or not mine & others)

    def test_expr_at_each_sign(self):
        for source in [read_source(T_TEXT)] + random_sources(23, 40, depth=3):
            rows = places(source)
            lines = source_text(source).split("\n")
            for line in range(0, len(lines) + 2):
                width = len(lines[line - 1]) if 1 <= line <= len(lines) else 0
                for sign in range(0, width + 3):
                    found = [row for row in rows if row[0] == line and row[1] <= sign <= row[2]]
                    shortest = min(found, key=lambda row: row[2] - row[1]) if found else None
                    self.assertEqual(expr_at(source, line, sign), shortest)

    def test_expr_at_of_the_example(self):
        source = read_source(T_TEXT)
        self.assertEqual(expr_at(source, 4, 11), (4, 10, 16, ("f", "a", "b")))
        self.assertEqual(expr_at(source, 4, 12), (4, 12, 12, "a"))
        self.assertEqual(expr_at(source, 4, 8), (4, 5, 17, ("g", "x", ("f", "a", "b"))))
        for line, sign in ((0, 0), (1, 6), (4, 1), (4, 4), (4, 18), (6, 6), (7, 6), (8, 1), (4, 10 ** 9), (10 ** 9, 5)):
            self.assertIsNone(expr_at(source, line, sign))

    def test_told_lists_are_new(self):
        source = read_source(T_TEXT)
        places(source).clear()
        self.assertEqual(len(places(source)), 11)
        self.assertEqual(places(Source([("read", "a"), ("tell", "a")])), [])

    def test_no_source(self):
        for thing in OBJECTS:
            for ask in (places, lambda source: expr_at(source, 1, 1)):
                with self.assertRaises(BadSource) as caught:
                    ask(thing)
                self.assertIs(caught.exception.thing, thing)


if __name__ == "__main__":
    unittest.main()
