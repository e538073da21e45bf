"""[68]: what is to be made again where some starts are changed."""

import itertools
import unittest

from twoslots.errors import BadSome, BadSource
from twoslots.needed import needed_terms, order_of
from twoslots.orders import Order
from twoslots.plans import fewest_hours
from twoslots.redone import redo_chain, redo_plan, redone
from twoslots.sources import Source
from twoslots.sourcetexts import read_source

from tests.hopeoracles import hours_of_terms, needed_by, numbers_of, order_of_terms, rich_sources
from tests.planoracles import hours_of_chain, is_chain, is_plan
from tests.samples import OBJECTS, T_TEXT, function_of_somebody, random_sources, source_of, term_list, terms_within

T = read_source(T_TEXT)


class Redone(unittest.TestCase):
    def check(self, source, some):
        terms = [term for term in needed_by(source) if any(("read", name) in terms_within(term) for name in some)]
        numbers = numbers_of(source, terms)
        self.assertEqual(redone(source, some), numbers)
        order = order_of_terms([term_list(source)[number] for number in numbers])
        plan, chain = redo_plan(source, some), redo_chain(source, some)
        self.assertTrue(is_plan(order, plan))
        self.assertTrue(is_chain(order, chain))
        self.assertEqual([len(plan), hours_of_chain(chain)], [hours_of_terms(terms)] * 2)
        return len(plan)

    def test_the_text_t(self):
        self.assertEqual(redone(T, ["a"]), [2, 3, 4])
        self.assertEqual((redo_plan(T, ["b"]), redo_chain(T, ["b"])), ([[0], [1], [2]], [[0], [1], [2]]))
        source = source_of("read a / read b / x = f(a) / y = g(b) / z = h(x, y) / w = m(a) / tell z")
        self.assertEqual([redone(source, some) for some in (["a"], ["b"], ["b", "a"], [])], [[2, 4], [3, 4], [2, 3, 4], []])
        self.assertEqual((redo_plan(source, ["b"]), redo_chain(source, ["b"])), ([[0], [1]], [[0], [1]]))

    def test_lists_of_none_and_of_all(self):
        for source in rich_sources(661, 40) + random_sources(662, 20):
            self.assertEqual((redone(source, []), redo_plan(source, ()), redo_chain(source, [])), ([], [], []))
            names = source.reads()
            self.check(source, names)
            if all(any(part[0] == "read" for part in terms_within(term)) for term in needed_by(source)):
                self.assertEqual(redone(source, names), needed_terms(source))
                self.assertEqual(len(redo_plan(source, names)), fewest_hours(order_of(source)))

    def test_lists_of_some(self):
        for source in rich_sources(663, 40):
            for many in range(len(source.reads()) + 1):
                for some in itertools.permutations(source.reads(), many):
                    self.check(source, list(some))
                    self.check(source, some)

    def test_more_reads_redo_no_fewer(self):
        for source in rich_sources(664, 30):
            names = source.reads()
            for at in range(len(names)):
                less, more = names[:at], names[:at + 1]
                self.assertLessEqual(set(redone(source, less)), set(redone(source, more)))
                self.assertLessEqual(len(redo_plan(source, less)), len(redo_plan(source, more)))

    def test_a_name_given_anew_is_still_read(self):
        source = source_of("read a / x = f(a) / a = k() / y = g(a) / tell x / tell y / tell a")
        self.assertEqual(redone(source, ["a"]), [1])

    def test_bad_some(self):
        for ask in (redone, redo_plan, redo_chain):
            for thing in [0, None, "", "a", {}, {"a": 1}, T, function_of_somebody]:
                with self.assertRaises(BadSome) as caught:
                    ask(T, thing)
                self.assertEqual(caught.exception.index, 0)
            for some, index in [(["c"], 0), (["a", "a"], 1), (["a", "b", "x"], 2), (["b", None, "c"], 1), (["a", ["b"]], 1),
                                ([{}, "a"], 0), (("b", 1), 1), (["A"], 0), ([""], 0), (["a", "b", "a"], 2), ([True], 0)]:
                with self.assertRaises(BadSome) as caught:
                    ask(T, some)
                self.assertEqual(caught.exception.index, index)
            for thing in OBJECTS + [Order(0, [])]:
                with self.assertRaises(BadSource) as caught:
                    ask(thing, None)
                self.assertIs(caught.exception.thing, thing)

    def test_told_lists_are_new(self):
        some = ["b", "a"]
        redone(T, some).clear()
        redo_plan(T, some)[0].clear()
        redo_chain(T, some)[0].clear()
        self.assertEqual((redone(T, some), redo_plan(T, some), redo_chain(T, some)), ([2, 3, 4], [[0], [1], [2]], [[0], [1], [2]]))
        self.assertEqual(some, ["b", "a"])
        self.assertEqual(redo_plan(T, tuple(some)), redo_plan(Source(T.lines()), some))


if __name__ == "__main__":
    unittest.main()
