"""[7]: sources."""

import unittest

from twoslots.errors import BadLines
from twoslots.programs import Program
from twoslots.sources import Source

from tests.samples import OBJECTS, T_LINES, function_of_somebody, random_sources


def lists_throughout(thing):
    return [lists_throughout(part) for part in thing] if isinstance(thing, (list, tuple)) else thing


def tuples_throughout(thing):
    return tuple(tuples_throughout(part) for part in thing) if isinstance(thing, (list, tuple)) else thing


class Sources(unittest.TestCase):
    def bad(self, lines, index):
        with self.assertRaises(BadLines) as caught:
            Source(lines)
        self.assertEqual(caught.exception.index, index, lines)

    def test_lines_reads_and_tells(self):
        source = Source(T_LINES)
        self.assertEqual(source.lines(), T_LINES)
        self.assertEqual(source.reads(), ["a", "b"])
        self.assertEqual(source.tells(), ["z", "x"])
        self.assertEqual(Source([]).lines(), [])
        self.assertEqual(Source(()).reads(), [])

    def test_lists_and_tuples_alike(self):
        for lines in (lists_throughout(T_LINES), tuples_throughout(T_LINES)):
            source = Source(lines)
            self.assertEqual(source, Source(T_LINES))
            self.assertEqual(source.lines(), T_LINES)
        told = Source(lists_throughout(T_LINES)).lines()
        self.assertIsInstance(told, list)
        self.assertTrue(all(isinstance(line, tuple) for line in told))
        self.assertIsInstance(told[3][2], tuple)
        self.assertIsInstance(told[3][2][2], tuple)

    def test_no_list(self):
        for thing in OBJECTS + [Source([]), Program([], [], [])]:
            if not isinstance(thing, (list, tuple)):
                self.bad(thing, 0)

    def test_things_that_are_no_lines(self):
        ahead = [("read", "a"), ("give", "b", ("f", "a"))]
        things = OBJECTS + [
            Source([]), ("read",), ("read", "c", "d"), ("give", "c"), ("give", "c", "a", "a"),
            ("tell",), ("tell", "a", "a"), ("take", "a"), ("Read", "c"), (1, "c"), (None, "c"), "read a",
            ["read", ["c"]], ("read", 1), ("read", None), ("tell", True), ("tell", ["a"]), {"read": "c"},
            ("give", 1, "a"), ("give", None, "a"), ("give", ("c",), "a"),
        ]
        for thing in things:
            self.bad(ahead + [thing, ("tell", "b")], 2)
            self.bad(ahead + [thing, thing], 2)

    def test_names(self):
        for name in ("", "A", "1a", "a_b", "abcdefghi", "read", "tell", "a b", "\n", "a\n", "\xe9", "a\xb2", " a"):
            self.bad([("read", name)], 0)
            self.bad([("give", name, ("f",))], 0)
            self.bad([("read", "a"), ("give", "b", (name,))], 1)
            self.bad([("read", "a"), ("give", "b", (name, "a"))], 1)
            self.bad([("read", "a"), ("give", "b", name)], 1)
            self.bad([("read", "a"), ("give", "b", ("f", name))], 1)
            self.bad([("read", "a"), ("tell", name)], 1)
        for name in ("a", "abcdefgh", "a1234567", "z9", "reads", "tell1", "rea"):
            source = Source([("read", name), ("give", name, (name, name)), ("tell", name)])
            self.assertEqual(source.reads(), [name])

    def test_exprs(self):
        good = ["a", ("f",), ["f"], ("f", "a"), ("f", "a", "a", "a"), ("a", "a"), ("f", ("f", ("f", "a"), ["g"]))]
        for expr in good:
            self.assertEqual(len(Source([("read", "a"), ("give", "b", expr)]).lines()), 2)
        bad = [(), [], 1, True, None, {}, function_of_somebody, ("f", 1), ("f", None), ("f", ()), ("f", True),
               ("f", "a", ("g", [])), (("f",), "a"), (1, "a"), ("f", "b"), "b", ("f", ("g", "a", "c")),
               ("read", "a"), ("tell",), ("f", ("read",)), ("f", {"a": 1}), Source([])]
        for expr in bad:
            self.bad([("read", "a"), ("give", "b", expr)], 1)

    def test_rows_in_a_wrong_order(self):
        self.bad([("tell", "a"), ("read", "a")], 0)
        self.bad([("give", "b", "a"), ("read", "a")], 0)
        self.bad([("give", "a", ("f", "a"))], 0)
        self.bad([("read", "a"), ("read", "a")], 1)
        self.bad([("give", "a", ("f",)), ("read", "a")], 1)
        self.bad([("read", "a"), ("tell", "a"), ("tell", "a")], 2)
        self.bad([("read", "a"), ("tell", "a"), ("give", "a", ("f",)), ("tell", "a")], 3)

    def test_names_given_anew(self):
        lines = [("read", "a"), ("tell", "a"), ("give", "a", ("f", "a")), ("give", "a", ("f", "a")),
                 ("give", "b", "a"), ("give", "b", "b"), ("tell", "b")]
        self.assertEqual(Source(lines).lines(), lines)

    def test_equality(self):
        source = Source(T_LINES)
        self.assertTrue(source == Source(T_LINES))
        self.assertFalse(source != Source(T_LINES))
        self.assertFalse(source == Source(T_LINES[:-1]))
        self.assertTrue(source != Source(T_LINES[:-1]))
        for thing in OBJECTS + [T_LINES, tuple(T_LINES), Program([], [], []), Source([])]:
            self.assertFalse(source == thing)
            self.assertTrue(source != thing)
        self.assertFalse(Source([]) == [])
        self.assertFalse(Source([("give", "a", ("b",))]) == Source([("give", "a", ("c",))]))
        rows = random_sources(7, 60, lines=3, depth=1)
        for one in rows:
            for other in rows:
                self.assertEqual(one == other, one.lines() == other.lines())

    def test_what_is_passed_is_copied(self):
        expr = ["f", ["g", "a"]]
        line = ["give", "b", expr]
        lines = [["read", "a"], line, ["tell", "b"]]
        source = Source(lines)
        expr[1].append("a")
        line[1] = "c"
        lines.append(["tell", "a"])
        self.assertEqual(source.lines(), [("read", "a"), ("give", "b", ("f", ("g", "a"))), ("tell", "b")])

    def test_what_is_told_is_new(self):
        source = Source(T_LINES)
        source.lines().clear()
        source.reads().append("c")
        source.tells().pop()
        self.assertEqual(source, Source(T_LINES))
        self.assertEqual((source.lines(), source.reads(), source.tells()), (T_LINES, ["a", "b"], ["z", "x"]))

    def test_what_is_passed_is_not_changed(self):
        lines = lists_throughout(T_LINES)
        Source(lines)
        self.assertEqual(lines, lists_throughout(T_LINES))


if __name__ == "__main__":
    unittest.main()
