"""[85], [86]: sources told back from what a teller, or a program, does."""

import random
import unittest

from twoslots.compiled import compiled
from twoslots.definitions import Definitions
from twoslots.errors import BadProgram, BadReads, BadTeller, NoText, NotSound, SlotError
from twoslots.orders import Order
from twoslots.plaintexts import plain_source
from twoslots.programs import Program
from twoslots.running import Run
from twoslots.sameness import mean_same
from twoslots.sessions import Session
from twoslots.slices import idle
from twoslots.sources import Source
from twoslots.sourcetexts import read_source
from twoslots.toldback import source_of_program, source_of_teller

from tests.programsamples import NARROW, P, fault_by_hand, random_programs, told_terms_of
from tests.samples import NO_STRINGS, T_TEXT, function_of_somebody, random_sources, source_of, written

T = read_source(T_TEXT)


def teller_of(source):
    """A teller that does what a source does, line by line."""
    def teller(work, starts):
        meant = {}

        def value_of(expr):
            return meant[expr] if isinstance(expr, str) else work(expr[0], [value_of(part) for part in expr[1:]])

        told = []
        for line in source.lines():
            if line[0] == "read":
                meant[line[1]] = starts[line[1]]
            elif line[0] == "give":
                meant[line[1]] = value_of(line[2])
            else:
                told.append((line[1], meant[line[1]]))
        return told
    return teller


def teller_of_t(work, starts):
    x = work("f", [starts["a"], starts["b"]])
    y = work("g", [x, x])
    return [("z", work("h", [y, x])), ("x", x)]


class Oops(Exception):
    """What somebody's teller raises."""


class Tellers(unittest.TestCase):
    def test_the_example(self):
        told = source_of_teller(teller_of_t, ["a", "b"])
        self.assertTrue(mean_same(told, T))
        self.assertEqual(told, plain_source(T))
        self.assertEqual(source_of_teller(teller_of_t, ("b", "a")), told)

    def test_random_sources(self):
        rng = random.Random(761)
        for source in random_sources(762, 120):
            names = source.reads()
            told = source_of_teller(teller_of(source), rng.sample(names, len(names)))
            self.assertEqual(told, plain_source(source))
            self.assertTrue(mean_same(told, source))

    def test_deep_terms(self):
        def teller(work, starts):
            value = starts["a"]
            for _ in range(3000):
                value = work("f", [value, value])
            return [("x", value)]
        self.assertEqual(len(source_of_teller(teller, ["a"]).lines()), 1 + 1 + 3000 + 2)

    def test_it_is_asked_once_by_place_with_new_things(self):
        asked = []

        def teller(*things, **more):
            asked.append((things, more))
            return []
        reads = ["b", "c", "a"]
        self.assertEqual(source_of_teller(teller, reads), source_of("read a / read b / read c / n0 = a / n1 = b / n2 = c"))
        self.assertEqual(len(asked), 1)
        (work, starts), more = asked[0]
        self.assertEqual(more, {})
        self.assertIsInstance(starts, dict)
        self.assertEqual(list(starts), ["a", "b", "c"])
        self.assertEqual(reads, ["b", "c", "a"])

        def spoils(work, starts):
            value = starts.pop("a")
            some = [value]
            first = work("f", some)
            some.append(value)
            starts.clear()
            return [("x", first), ("y", work("f", some)), ("z", value)]
        done = source_of_teller(spoils, ["a"])
        self.assertEqual(written(done)[2], [("x", ("f", ("read", "a"))), ("y", ("f", ("read", "a"), ("read", "a"))), ("z", ("read", "a"))])

    def test_values_are_equal_just_if_terms_are(self):
        kept = []

        def teller(work, starts):
            ones = [starts["a"], starts["b"], work("f", []), work("f", [starts["a"]]), work("f", (starts["b"],)),
                    work("g", [starts["a"]]), work("f", [work("f", [starts["a"]])])]
            again = [starts["a"], starts["b"], work("f", ()), work("f", (starts["a"],)), work("f", [starts["b"]]),
                     work("g", (starts["a"],)), work("f", (work("f", [starts["a"]]),))]
            kept.append((ones, again))
            return (["x", again[3]],)
        done = source_of_teller(teller, ["a", "b"])
        ones, again = kept[0]
        for at, one in enumerate(ones):
            for spot, other in enumerate(again):
                self.assertIs(one == other, at == spot)
                self.assertIs(one != other, at != spot)
        self.assertEqual(written(done)[2], [("x", ("f", ("read", "a")))])

    def test_tells_in_their_order_and_lists_for_pairs(self):
        done = source_of_teller(lambda work, starts: (["q", starts["a"]], ("a", work("k", ())), ["b", starts["a"]]), ["a"])
        self.assertEqual(written(done)[2], [("q", ("read", "a")), ("a", ("k",)), ("b", ("read", "a"))])
        self.assertEqual(done.reads(), ["a"])
        self.assertEqual(source_of_teller(lambda work, starts: [], []), Source([]))
        self.assertEqual(source_of_teller(lambda work, starts: (), ()), Source([]))

    def test_what_is_told_by_no_name_is_left_out(self):
        def teller(work, starts):
            work("u", [work("v", [starts["a"]])])
            return [("x", work("f", [starts["b"]]))]
        self.assertEqual(source_of_teller(teller, ["a", "b"]),
                         source_of("read a / read b / n0 = a / n1 = b / n2 = f(n1) / x = n2 / tell x"))

    def test_what_it_raises_comes_out(self):
        for error in (Oops("no"), ValueError("no"), BadTeller(None), KeyError("a")):
            def teller(work, starts, error=error):
                work("f", [starts["a"]])
                raise error
            with self.assertRaises(type(error)) as caught:
                source_of_teller(teller, ["a"])
            self.assertIs(caught.exception, error)

    def test_no_teller(self):
        box = ([], [], 0)
        some = [T, P, Order(0, []), Run(P, box), compiled(T), Definitions([]), Session(), SlotError(), BadTeller(None), [], {}, "a", "", b"".hex()]
        for thing in [thing for thing in NO_STRINGS if thing is not function_of_somebody] + some:
            with self.assertRaises(BadTeller) as caught:
                source_of_teller(thing, None)
            self.assertIs(caught.exception.thing, thing)

    def test_a_value_is_no_teller(self):
        kept = []

        def teller(work, starts):
            kept.append(starts["a"])
            return []
        source_of_teller(teller, ["a"])
        with self.assertRaises(BadTeller) as caught:
            source_of_teller(kept[0], ["a"])
        self.assertIs(caught.exception.thing, kept[0])

    def test_bad_reads(self):
        def never(work, starts):
            raise Oops("it is not asked")
        for thing in [None, 0, True, "a", "", {}, {"a": 1}, T, function_of_somebody]:
            with self.assertRaises(BadReads) as caught:
                source_of_teller(never, thing)
            self.assertEqual(caught.exception.index, 0)
        for thing in [None, 0, "", "A", "read", "tell", "abcdefghi", ["b"], "a", {}, T, "1a", True]:
            with self.assertRaises(BadReads) as caught:
                source_of_teller(never, ["a", "abcdefgh", thing, None])
            self.assertEqual(caught.exception.index, 2, thing)

    def test_no_text(self):
        old = []

        def keeps(work, starts):
            old.extend([starts["a"], work("f", [])])
            return []
        source_of_teller(keeps, ["a"])
        for thing in [None, 0, "", "x", {}, {"x": 1}, True, T, function_of_somebody]:
            self.check_no_text(lambda work, starts, thing=thing: thing, 0)
        for wrong in [None, 7, "xy", ("x",), (), ("x", None), ["x", 7], ("x", "a"), ("x", [1]), ("x", {}), ("x", old[0]), ("x", old[1]),
                      ("x", function_of_somebody), ("x", T), {"x": 1}]:
            def teller(work, starts, wrong=wrong):
                return [("p", starts["a"]), ["q", work("f", [])], wrong, None]
            self.check_no_text(teller, 2)
        for name in ["p", "", "read", "tell", "A", "abcdefghi", None, 7, ["x"], ("x",), True]:
            def teller(work, starts, name=name):
                return [("p", starts["a"]), (name, starts["a"]), None]
            self.check_no_text(teller, 1)
        self.check_no_text(lambda work, starts: [("x", starts["a"], starts["a"])], 0)
        self.check_no_text(lambda work, starts: [("x", work)], 0)
        self.check_no_text(lambda work, starts: [("x", [starts["a"]])], 0)

    def check_no_text(self, teller, index):
        with self.assertRaises(NoText) as caught:
            source_of_teller(teller, ["a"])
        self.assertEqual(caught.exception.index, index)

    def test_errors_in_order(self):
        with self.assertRaises(BadTeller):
            source_of_teller(None, None)
        with self.assertRaises(BadReads):
            source_of_teller(lambda work, starts: None, ["a", "a"])
        with self.assertRaises(NoText):
            source_of_teller(lambda work, starts: None, ["a"])


class Programs(unittest.TestCase):
    def test_the_example(self):
        self.assertEqual(source_of_program(P), plain_source(T))
        self.assertEqual(source_of_program(NARROW), plain_source(T))

    def test_random_programs(self):
        vain = 0
        for program in random_programs(763, 200):
            done = source_of_program(program)
            self.assertEqual(done, plain_source(done))
            self.assertEqual(done.reads(), sorted(name for name, _ in program.reads()))
            self.assertEqual(written(done)[2], told_terms_of(program))
            vain += len(idle(program)) > 0
        self.assertGreater(vain, 20)

    def test_what_is_compiled(self):
        for source in random_sources(764, 120):
            self.assertEqual(source_of_program(compiled(source).program()), plain_source(source))

    def test_what_no_told_one_wants_is_gone(self):
        program = Program([("b", 1), ("a", 2)], [[(3, "f", (1,)), (4, "u", (2, 2))], [(4, "v", (4,)), (5, "f", (1,))]], [("x", 5)])
        self.assertEqual(source_of_program(program), source_of("read a / read b / n0 = a / n1 = b / n2 = f(n1) / x = n2 / tell x"))

    def test_no_program_and_not_sound(self):
        for thing in NO_STRINGS + [T, "", Order(0, [])]:
            with self.assertRaises(BadProgram) as caught:
                source_of_program(thing)
            self.assertIs(caught.exception.thing, thing)
        faults = 0
        for program in random_programs(765, 60, right=False):
            fault = fault_by_hand(program)
            if fault is not None:
                faults += 1
                with self.assertRaises(NotSound) as caught:
                    source_of_program(program)
                self.assertEqual(caught.exception.fault, fault)
        self.assertGreater(faults, 10)


if __name__ == "__main__":
    unittest.main()
