"""[17], [19]: boxes, and boxes by which sources are parted."""

import random
import unittest

from twoslots.errors import BadBox, BadSource
from twoslots.partings import is_parting_box, parting_box, values_told
from twoslots.programs import Program
from twoslots.sources import Source
from twoslots.sourcetexts import read_source
from twoslots.terms import term_rows

from tests.samples import OBJECTS, T_TEXT, function_of_somebody, random_sources, source_of, written
from tests.test_sources import lists_throughout, tuples_throughout

BOX = ([("f", [1, 2], 5), ("g", [5, 5], 7)], [("a", 1), ("b", 2)], 0)


def value_by(box, term):
    rows, starts, other = box
    if term[0] == "read":
        return dict(starts).get(term[1], other)
    values = [value_by(box, part) for part in term[1:]]
    for operation, given, value in rows:
        if operation == term[0] and list(given) == values:
            return value
    return other


def random_box(rng):
    rows = {}
    for _ in range(rng.randint(0, 12)):
        key = (rng.choice("fgk"), tuple(rng.randint(0, 2) for _ in range(rng.randint(0, 2))))
        rows[key] = rng.randint(0, 2)
    starts = [(name, rng.randint(0, 2)) for name in rng.sample("abcd", rng.randint(0, 4))]
    return ([(name, list(values), value) for (name, values), value in rows.items()], starts, rng.randint(0, 2))


BAD_BOXES = OBJECTS + [
    ([], []), ([], [], 0, 0), ([], 0, []), (0, [], []), ([], [], True), ([], [], None), ([], [], "0"), ([], [], [0]),
    (None, [], 0), ([], None, 0), ("", [], 0), ([], "", 0), ({}, [], 0), ([], {}, 0),
    ([("f", [1])], [], 0), ([("f", [1], 2, 3)], [], 0), (["f"], [], 0), ([("f", 1, 2)], [], 0), ([("f", [1], [2])], [], 0),
    ([("f", [True], 2)], [], 0), ([("f", [1], False)], [], 0), ([("f", [None], 2)], [], 0), ([("f", ["1"], 2)], [], 0),
    ([("read", [1], 2)], [], 0), ([("abcdefghi", [], 2)], [], 0), ([(1, [1], 2)], [], 0), ([None], [], 0),
    ([("f", [1], 2), ("f", [1], 2)], [], 0), ([("f", [], 2), ("g", [], 2), ("f", (), 3)], [], 0), ([("f", [[1]], 2)], [], 0),
    ([], [("a",)], 0), ([], [("a", 1, 1)], 0), ([], ["a1"], 0), ([], [("tell", 1)], 0), ([], [("a", True)], 0),
    ([], [("a", None)], 0), ([], [(1, 1)], 0), ([], [("a", 1), ("a", 1)], 0), ([], [("a", 1), ("b", 1), ("a", 2)], 0),
    ([], [("a", "1")], 0), ([], [(["a"], 1)], 0), ([], [None], 0), ([(["f"], [], 1)], [], 0),
    {"rows": [], "starts": [], "other": 0},
]


class Boxes(unittest.TestCase):
    def test_the_example(self):
        self.assertEqual(values_told(read_source(T_TEXT), BOX), [("z", 0), ("x", 5)])

    def test_lists_and_tuples_alike(self):
        for kind in (lists_throughout, tuples_throughout):
            self.assertEqual(values_told(read_source(T_TEXT), kind(BOX)), [("z", 0), ("x", 5)])

    def test_rows_in_whatever_order(self):
        rows, starts, other = BOX
        self.assertEqual(values_told(read_source(T_TEXT), (rows[::-1], starts[::-1], other)), [("z", 0), ("x", 5)])

    def test_an_operation_by_its_number_of_parts(self):
        source = source_of("read a / x = f(a) / y = f(a, a) / z = f() / tell x / tell y / tell z")
        box = ([("f", [1], 2), ("f", [1, 1], 3), ("f", [], 4)], [("a", 1)], -9)
        self.assertEqual(values_told(source, box), [("x", 2), ("y", 3), ("z", 4)])

    def test_other_for_all_else(self):
        source = source_of("read a / read b / x = f(a) / y = f(b) / z = g(x) / tell x / tell y / tell z / tell b")
        box = ([("f", [1], 2), ("g", [7], 3)], [("a", 1)], 7)
        self.assertEqual(values_told(source, box), [("x", 2), ("y", 7), ("z", 7), ("b", 7)])
        box = ([("f", [1], 7), ("g", [7], 3)], [("a", 1), ("c", 5)], 7)
        self.assertEqual(values_told(source, box), [("x", 7), ("y", 7), ("z", 3), ("b", 7)])

    def test_values_and_starts_can_be_alike(self):
        source = source_of("read a / read b / x = f(a, b) / tell x")
        box = ([("f", [-5, -5], 10 ** 8)], [("a", -5), ("b", -5)], -5)
        self.assertEqual(values_told(source, box), [("x", 10 ** 8)])

    def test_no_tells(self):
        self.assertEqual(values_told(Source([]), BOX), [])

    def test_random_boxes(self):
        rng = random.Random(81)
        for source in random_sources(82, 150):
            for box in [random_box(rng) for _ in range(4)]:
                told = [(name, value_by(box, term)) for name, term in written(source)[2]]
                self.assertEqual(values_told(source, box), told)

    def test_no_boxes(self):
        source = read_source(T_TEXT)
        for thing in BAD_BOXES + [source, Program([], [], []), function_of_somebody]:
            with self.assertRaises(BadBox) as caught:
                values_told(source, thing)
            self.assertIs(caught.exception.thing, thing)
            self.assertIs(is_parting_box(source, Source([]), thing), False)

    def test_bad_source_ahead_of_bad_box(self):
        for thing in OBJECTS + [Program([], [], [])]:
            with self.assertRaises(BadSource) as caught:
                values_told(thing, None)
            self.assertIs(caught.exception.thing, thing)

    def test_nothing_is_changed(self):
        box = lists_throughout(BOX)
        values_told(read_source(T_TEXT), box)
        self.assertEqual(box, lists_throughout(BOX))


class Partings(unittest.TestCase):
    def test_none_just_if_the_same_is_told(self):
        rows = random_sources(83, 70, lines=7, names="ab") + [Source([]), source_of("read a"), source_of("read b")]
        for one in rows:
            made = len([row for row in term_rows(one) if row[0] != "read"])
            for other in rows:
                box = parting_box(one, other)
                self.assertEqual(box is None, written(one)[2] == written(other)[2])
                if box is not None:
                    self.assertNotEqual(values_told(one, box), values_told(other, box))
                    self.assertTrue(is_parting_box(one, other, box))
                    both = made + len([row for row in term_rows(other) if row[0] != "read"])
                    self.assertLessEqual(len(box[0]), both)
                    self.assertEqual(parting_box(one, other), box)

    def test_kinds_of_what_is_told(self):
        box = parting_box(source_of("read a / x = f(a) / tell x"), source_of("read a / x = f(f(a)) / tell x"))
        self.assertIsInstance(box, tuple)
        self.assertIsInstance(box[0], list)
        self.assertIsInstance(box[1], list)
        self.assertTrue(all(isinstance(row, tuple) and isinstance(row[1], list) for row in box[0]))
        self.assertTrue(all(isinstance(pair, tuple) for pair in box[1]))

    def test_what_is_read_is_not_asked(self):
        self.assertIsNone(parting_box(source_of("read a"), source_of("read b / c = f(b)")))
        self.assertIsNone(parting_box(source_of("read a / tell a"), source_of("read b / read a / tell a")))
        self.assertIsNotNone(parting_box(source_of("read a / b = a / tell b"), source_of("read b / tell b")))

    def test_told_names(self):
        one = source_of("read a / read b / tell a / tell b")
        other = source_of("read a / read b / tell b / tell a")
        self.assertTrue(is_parting_box(one, other, parting_box(one, other)))
        self.assertTrue(is_parting_box(one, Source([]), ([], [], 0)))

    def test_is_parting_box(self):
        one = source_of("read a / x = f(a) / tell x")
        other = source_of("read a / x = g(a) / tell x")
        self.assertTrue(is_parting_box(one, other, ([("f", [0], 1)], [], 0)))
        self.assertTrue(is_parting_box(one, other, [[["g", (0,), 1]], (), 0]))
        for thing in [([("f", [0], 0)], [], 0), ([("f", [1], 1)], [], 0), ([], [], 0), ([("f", [0], 1), ("g", [0], 1)], [], 0)]:
            self.assertIs(is_parting_box(one, other, thing), False)
        self.assertIs(is_parting_box(one, one, ([("f", [0], 1)], [], 0)), False)
        rng = random.Random(84)
        for source in random_sources(85, 40, names="ab"):
            for other in random_sources(86, 10, names="ab"):
                box = random_box(rng)
                self.assertEqual(is_parting_box(source, other, box), values_told(source, box) != values_told(other, box))

    def test_written_out_terms_that_double(self):
        def doubled(name):
            lines = [("read", "a"), ("read", "b"), ("give", "x", ("f", "a", name))]
            return Source(lines + [("give", "x", ("f", "x", "x"))] * 99 + [("tell", "x")])

        box = parting_box(doubled("a"), doubled("b"))
        self.assertTrue(is_parting_box(doubled("a"), doubled("b"), box))
        self.assertIsNone(parting_box(doubled("b"), doubled("b")))

    def test_no_source(self):
        source = read_source(T_TEXT)
        for thing in OBJECTS + [Program([], [], [])]:
            for ask in (parting_box, lambda one, other: is_parting_box(one, other, None)):
                for pair in ((thing, source), (source, thing), (thing, 7)):
                    with self.assertRaises(BadSource) as caught:
                        ask(*pair)
                    self.assertIs(caught.exception.thing, thing)


if __name__ == "__main__":
    unittest.main()
