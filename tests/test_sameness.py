"""[18]: what sources mean, and papers that they do not mean the same."""

import itertools
import unittest

from twoslots.errors import BadSource
from twoslots.programs import Program
from twoslots.sameness import is_unlike_paper, mean_same, unlike_paper
from twoslots.sources import Source
from twoslots.sourcetexts import read_source

from tests.samples import OBJECTS, T_LINES, T_TEXT, function_of_somebody, random_sources, source_of, term_parts
from tests.samples import written


def meaning(source):
    return sorted(source.reads()), written(source)[2]


def alike_at_top(one, other):
    if "read" in (one[0], other[0]):
        return False
    return one[0] == other[0] and len(one) == len(other)


def unlike_paths(one, other):
    """All lists of indexes down which two terms have one operation, to two that have not."""
    if alike_at_top(one, other):
        pairs = enumerate(zip(term_parts(one), term_parts(other)))
        return [[at] + path for at, pair in pairs for path in unlike_paths(*pair)]
    return [] if one == other else [[]]


def all_papers(one, other):
    """All papers, of all three kinds, and of each kind the first one ahead."""
    mine = written(one)[2]
    others = written(other)[2]
    papers = [("reads", name) for name in sorted(set(one.reads()) ^ set(other.reads()))]
    for place in range(max(len(mine), len(others))):
        names = [row[place][0] if place < len(row) else None for row in (mine, others)]
        if names[0] != names[1]:
            papers.append(("told", place))
    for place, (tell, against) in enumerate(zip(mine, others)):
        papers.extend(("path", place, path) for path in sorted(unlike_paths(tell[1], against[1])))
    return papers


SOME = random_sources(71, 60, lines=7, names="ab") + [
    source_of("read a / read b / tell a"), source_of("read b / read a / tell a"),
    source_of("read b / a = f(b, f(b)) / tell a"), source_of("read b / a = f(b, f(b, b)) / tell a"),
    source_of("read b / c = f(b) / a = f(b, c) / tell a"), source_of("read b / a = f(k(), g(b, b)) / tell a / tell b"),
]


class Meaning(unittest.TestCase):
    def test_the_example(self):
        one = read_source(T_TEXT)
        other = read_source(T_TEXT.replace("x = f(a, b)", "x = f(b, a)"))
        self.assertEqual(unlike_paper(one, other), ("path", 0, [0, 0, 0]))
        self.assertFalse(mean_same(one, other))
        self.assertTrue(mean_same(one, one))
        self.assertIsNone(unlike_paper(one, Source(T_LINES)))

    def test_the_same_otherwise_written(self):
        one = source_of("read a / read b / x = f(a, g(b)) / tell x / tell a")
        other = source_of("read b / y = g(b) / w = h(y) / read a / x = a / x = f(x, y) / tell x / tell a / x = a")
        self.assertTrue(mean_same(one, other))
        self.assertIsNone(unlike_paper(other, one))

    def test_unused_reads_count(self):
        one = source_of("read a / read b / tell a")
        self.assertEqual(unlike_paper(one, source_of("read a / tell a")), ("reads", "b"))
        self.assertEqual(unlike_paper(source_of("read c / tell c"), source_of("read d / read b / c = b / tell c")),
                         ("reads", "b"))

    def test_told_names_in_their_order(self):
        one = source_of("read a / x = f(a) / tell a / tell x")
        self.assertEqual(unlike_paper(one, source_of("read a / x = f(a) / tell x / tell a")), ("told", 0))
        self.assertEqual(unlike_paper(one, source_of("read a / x = f(a) / tell a")), ("told", 1))
        self.assertEqual(unlike_paper(source_of("read a"), source_of("read a / tell a")), ("told", 0))
        self.assertEqual(unlike_paper(source_of("read a / x = a / tell a"),
                                      source_of("read a / a = f(a) / tell a / x = a / tell x")), ("told", 1))

    def test_paths(self):
        one = source_of("read a / read b / x = f(a, b, g(a)) / tell x")
        for expr, path in (("f(a, b, g(b))", [2, 0]), ("f(a, a, g(b))", [1]), ("f(b, a, b)", [0]), ("f(a, b)", []),
                           ("g(a)", []), ("a", []), ("f(a, b, g())", [2]), ("f(a, b, a)", [2]),
                           ("f(a, b, g(g(a)))", [2, 0])):
            other = source_of(f"read a / read b / x = {expr} / tell x")
            self.assertEqual(unlike_paper(one, other), ("path", 0, path))
            self.assertEqual(unlike_paper(other, one), ("path", 0, path))
            self.assertTrue(is_unlike_paper(one, other, ("path", 0, path)))

    def test_just_one_and_the_first_paper(self):
        for one in SOME:
            for other in SOME:
                papers = all_papers(one, other)
                paper = unlike_paper(one, other)
                self.assertEqual(mean_same(one, other), meaning(one) == meaning(other))
                self.assertEqual(mean_same(one, other), paper is None)
                self.assertEqual(paper, papers[0] if papers else None)

    def test_all_things_that_are_papers_and_no_others(self):
        places = range(4)
        paths = [list(path) for many in range(4) for path in itertools.product(range(3), repeat=many)]
        things = [("reads", name) for name in "abcx"] + [("told", place) for place in places]
        things += [("path", place, path) for place in places for path in paths]
        for one in SOME[::4] + SOME[-6:]:
            for other in SOME[::3] + SOME[-6:]:
                papers = all_papers(one, other)
                for thing in things:
                    self.assertEqual(is_unlike_paper(one, other, thing), thing in papers, thing)

    def test_lists_for_tuples(self):
        one = read_source(T_TEXT)
        other = read_source(T_TEXT.replace("x = f(a, b)", "x = f(b, a)"))
        self.assertTrue(is_unlike_paper(one, other, ["path", 0, (0, 0, 0)]))
        self.assertTrue(is_unlike_paper(one, source_of("read a"), ["reads", "b"]))
        self.assertTrue(is_unlike_paper(one, source_of("read a"), ["told", 1]))

    def test_later_kinds_where_an_earlier_one_is_due(self):
        one = source_of("read a / read b / x = f(a) / y = g(a) / tell x / tell y")
        other = source_of("read c / x = f(c) / y = f(c) / tell y / tell x")
        self.assertEqual(unlike_paper(one, other), ("reads", "a"))
        for thing in [("reads", "c"), ("told", 0), ("told", 1), ("path", 0, [0]), ("path", 1, [])]:
            self.assertTrue(is_unlike_paper(one, other, thing), thing)

    def test_any_object(self):
        one = source_of("read a / x = f(a) / tell x")
        other = source_of("read b / x = f(b) / tell x / tell b")
        self.assertTrue(is_unlike_paper(one, other, ("told", 1)))
        self.assertTrue(is_unlike_paper(one, other, ("path", 0, [0])))
        things = OBJECTS + [one, other, Program([], [], []), ("reads",), ("reads", "a", 0), ("reads", 0), ("reads", ["a"]),
                            ("told",), ("told", True), ("told", 2), ("told", -1), ("told", "1"), ("told", 1, []),
                            ("path", 0), ("path", False, [0]), ("path", 0, [False]), ("path", 0, 0), ("path", 0, "0"),
                            ("path", 0, None), ("path", 0, []), ("path", 0, [0, 0]), ("path", 0, [1]), ("path", 1, []),
                            ("path", 0, [-1]), ("path", -1, [0]), ("path", 0, [0], 0), ("path", 0, [None]), ("best",),
                            ("path", 0, {0: 0}), ("path", 0, [[0]]), (0, 1), ("Reads", "a"), {"reads": "a"},
                            function_of_somebody, ("path", [0], 0), ("path", 0, [10 ** 9])]
        for thing in things:
            self.assertIs(is_unlike_paper(one, other, thing), False, thing)

    def test_no_source(self):
        source = read_source(T_TEXT)
        for thing in OBJECTS + [Program([], [], [])]:
            for ask in (mean_same, unlike_paper, lambda one, other: is_unlike_paper(one, other, None)):
                for pair in ((thing, source), (source, thing), (thing, 7)):
                    with self.assertRaises(BadSource) as caught:
                        ask(*pair)
                    self.assertIs(caught.exception.thing, thing)


class LongTerms(unittest.TestCase):
    def test_written_out_terms_that_double(self):
        def doubled(name):
            lines = [("read", "a"), ("read", "b"), ("give", "x", ("f", "a", name))]
            return Source(lines + [("give", "x", ("f", "x", "x"))] * 99 + [("tell", "x")])

        self.assertTrue(mean_same(doubled("a"), doubled("a")))
        self.assertEqual(unlike_paper(doubled("a"), doubled("b")), ("path", 0, [0] * 99 + [1]))
        self.assertTrue(is_unlike_paper(doubled("a"), doubled("b"), ("path", 0, [1] * 100)))
        self.assertFalse(is_unlike_paper(doubled("a"), doubled("b"), ("path", 0, [1] * 99 + [0])))


if __name__ == "__main__":
    unittest.main()
