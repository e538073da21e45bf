"""[81], [82]: operations that are defined by exprs, and sources without them."""

import itertools
import random
import unittest

from twoslots.definitions import Definitions, expanded, ring_of_uses
from twoslots.errors import BadRows, BadSource
from twoslots.needed import fewest_makings
from twoslots.orders import Order
from twoslots.sources import Source
from twoslots.sourcetexts import read_source, source_text

from tests.hopeoracles import needed_by
from tests.samples import OBJECTS, T_TEXT, function_of_somebody, random_expr, random_lines, source_of, written

T = read_source(T_TEXT)
SQUARE = ("sq", ["p"], ("mul", "p", "p"))
NONE = Definitions([])


def put_in(definitions, term):
    """A term with all defined operations replaced, parts first; only where there is no ring."""
    if term[0] == "read":
        return term
    parts = [put_in(definitions, part) for part in term[1:]]
    for operation, names, expr in definitions.rows():
        if operation == term[0] and len(names) == len(parts):
            return put_in_expr(definitions, expr, dict(zip(names, parts)))
    return (term[0],) + tuple(parts)


def put_in_expr(definitions, expr, meant):
    if isinstance(expr, str):
        return meant[expr]
    parts = [put_in_expr(definitions, part, meant) for part in expr[1:]]
    fresh = [f"v{at}" for at in range(len(parts))]
    for operation, names, other in definitions.rows():
        if operation == expr[0] and len(names) == len(parts):
            return put_in_expr(definitions, other, dict(zip(names, parts)))
    return (expr[0],) + tuple(dict(zip(fresh, parts))[name] for name in fresh)


def calls_in(expr):
    if isinstance(expr, str) or expr[0] == "read":
        return set()
    found = {(expr[0], len(expr) - 1)}
    for part in expr[1:]:
        found |= calls_in(part)
    return found


def uses_by_hand(source, definitions):
    """From what the source comes to by uses to what it uses, of the defined operations alone."""
    every = {(operation, len(names)): calls_in(expr) for operation, names, expr in definitions.rows()}
    found = {}
    left = [(term[0], len(term) - 1) for term in needed_by(source)]
    while left:
        one = left.pop()
        if one in every and one not in found:
            found[one] = every[one] & set(every)
            left.extend(found[one])
    return found


def ring_by_hand(source, definitions):
    uses = uses_by_hand(source, definitions)
    for many in range(1, len(uses) + 1):
        for ring in itertools.permutations(sorted(uses), many):
            if all(ring[at] in uses[ring[at - 1]] for at in range(many)):
                return list(ring)
    return None


def random_definitions(rng, names=("f", "g", "m", "n"), ring=0.4):
    rows = []
    for operation, many in rng.sample([(name, many) for name in names for many in range(3)], rng.randint(0, 8)):
        known = ["p", "q"][:many]
        later = [one for one in names if one > operation] + ["u"] if rng.random() > ring else list(names)
        calls = [(one, size) for one in later for size in range(3)]
        rows.append((operation, known, random_expr(rng, known, rng.randint(1, 2), calls) if known else (rng.choice(later), ("k",))))
    return Definitions(rows)


def some_sources(seed, many):
    rng = random.Random(seed)
    for _ in range(many):
        operations = [("f", 1), ("f", 2), ("g", 1), ("m", 2), ("n", 0), ("h", 2)]
        lines = random_lines(rng, rng.randint(2, 10), operations=operations)
        known = sorted({line[1] for line in lines if line[0] != "tell"})
        lines += [("give", "w", ("h", rng.choice(known), rng.choice(known))), ("tell", "w")] if known else []
        yield rng, Source(lines)


class Rows(unittest.TestCase):
    def test_rows_are_told_as_tuples(self):
        rows = (["sq", ("p",), ["mul", "p", ["mul", "p", "p"]]], ("k", [], ["k", ["k"]]), ["id", ["x"], "x"])
        definitions = Definitions(rows)
        told = [("sq", ["p"], ("mul", "p", ("mul", "p", "p"))), ("k", [], ("k", ("k",))), ("id", ["x"], "x")]
        self.assertEqual(definitions.rows(), told)
        self.assertIsInstance(definitions.rows()[0], tuple)
        self.assertIsInstance(definitions.rows()[0][1], list)
        definitions.rows()[0][1].append("q")
        definitions.rows().clear()
        self.assertEqual(definitions.rows(), told)
        rows[0][2][2].append("p")
        self.assertEqual(definitions.rows(), told)
        rows[2][1].append("q")
        self.assertEqual(definitions.rows(), told)
        self.assertEqual(definitions, Definitions([[name, tuple(names), list(expr) if expr != "x" else expr] for name, names, expr in told]))

    def test_bad_rows(self):
        for thing in [None, 0, "sq", {}, T, function_of_somebody, True]:
            with self.assertRaises(BadRows) as caught:
                Definitions(thing)
            self.assertEqual(caught.exception.index, 0)
        wrong = [None, "sq", (), ("sq",), ("sq", ["p"]), ("sq", ["p"], "p", "p"), ("read", ["p"], "p"), ("tell", ["p"], "p"), ("Sq", [], ("k",)),
                 (7, [], ("k",)), (["sq"], [], ("k",)), ("sq", "p", "p"), ("sq", None, ("k",)), ("sq", {"p": 1}, "p"), ("sq", ["p", "p"], "p"),
                 ("sq", ["p", 7], "p"), ("sq", ["read"], ("k",)), ("sq", ["p"], "q"), ("sq", ["p"], ("f", "p", "q")), ("sq", [], ()),
                 ("sq", ["p"], ("read", "p")), ("sq", ["p"], None), ("sq", ["p"], ("f", ("g", 7))), ("sq", ["p"], ("p", ("p", "f"))),
                 ("abcdefghi", [], ("k",)), ("sq", ["p"], {"f": "p"}), ("sq", [["p"]], ("k",)), ("mul", ["a", "b"], "a")]
        right = [("mul", ["p", "q"], ("add", "p", "q")), ("mul", ["p"], "p")]
        for thing in wrong:
            with self.assertRaises(BadRows) as caught:
                Definitions(right + [thing, None])
            self.assertEqual(caught.exception.index, 2, thing)

    def test_an_operation_with_as_many_parts_stands_once(self):
        Definitions([SQUARE, ("sq", [], ("k",)), ("sq", ["p", "q"], "q")])
        with self.assertRaises(BadRows) as caught:
            Definitions([SQUARE, ("sq", [], ("k",)), ("sq", ["q"], "q")])
        self.assertEqual(caught.exception.index, 2)

    def test_names_that_operations_have_too(self):
        definitions = Definitions([("p", ["p"], ("p", "p", "p"))])
        self.assertEqual(definitions.rows(), [("p", ["p"], ("p", "p", "p"))])

    def test_equal_in_whatever_order(self):
        rows = [SQUARE, ("sq", [], ("k",)), ("id", ["x"], "x")]
        for other in itertools.permutations(rows):
            self.assertEqual(Definitions(rows), Definitions(list(other)))
            self.assertFalse(Definitions(rows) != Definitions(other))
        self.assertEqual(NONE, Definitions(()))
        for other in (rows[:2], rows + [("k", [], ("m",))], [("sq", ["q"], ("mul", "q", "q"))] + rows[1:],
                      [("sq", ["p"], ("mul", "p", "p", "p"))] + rows[1:], [("sr", ["p"], ("mul", "p", "p"))] + rows[1:],
                      rows[:2] + [("id", ["y"], "y")], rows[:2] + [("id", ["x"], ("x",))], []):
            self.assertNotEqual(Definitions(rows), Definitions(other))
        for thing in OBJECTS + [T, rows, Order(0, [])]:
            self.assertFalse(Definitions(rows) == thing)
        self.assertNotEqual(Definitions([("f", ["p", "q"], "p")]), Definitions([("f", ["q", "p"], "p")]))

    def test_deep_exprs(self):
        expr = "p"
        for _ in range(100):
            expr = ["f", expr]
        self.assertEqual(Definitions([("d", ["p"], expr)]), Definitions([("d", ["p"], expr)]))
        done = expanded(source_of("read a / x = d(d(a)) / tell x"), Definitions([("d", ["p"], expr)]))
        self.assertEqual(fewest_makings(done), 200)


class Expanded(unittest.TestCase):
    def check(self, source, definitions):
        ring = ring_by_hand(source, definitions)
        self.assertEqual(ring_of_uses(source, definitions), ring)
        done = expanded(source, definitions)
        self.assertIs(done is None, ring is not None)
        if done is not None:
            self.assertEqual((done.reads(), done.tells()), (source.reads(), source.tells()))
            self.assertEqual(written(done)[2], [(name, put_in(definitions, term)) for name, term in written(source)[2]])
            every = {(operation, len(names)) for operation, names, _ in definitions.rows()}
            for line in done.lines():
                self.assertFalse(calls_in(line[2]) & every if line[0] == "give" else False)
        return done

    def test_the_example(self):
        done = self.check(source_of("read a / x = sq(sq(a)) / tell x"), Definitions([SQUARE]))
        self.assertEqual(fewest_makings(done), 2)
        square = ("mul", ("read", "a"), ("read", "a"))
        self.assertEqual(written(done)[2], [("x", ("mul", square, square))])

    def test_chains_of_definitions(self):
        definitions = Definitions([("d", ["p"], ("e", "p", ("sq", "p"))), ("e", ["p", "q"], ("sq", ("add", "p", "q"))), SQUARE])
        self.check(source_of("read a / read b / x = d(e(a, b)) / y = d(a, b) / tell y / tell x"), definitions)

    def test_dropped_and_doubled_names(self):
        definitions = Definitions([("one", ["p", "q"], "p"), ("two", ["p", "q"], ("f", "q", "q", "p", "q")), ("k", ["p"], ("c",))])
        done = self.check(source_of("read a / x = one(a, two(a, k(a))) / y = k(two(a, a)) / z = two(k(a), a) / tell x / tell y / tell z"), definitions)
        self.assertEqual(fewest_makings(done), 2)
        self.assertEqual(fewest_makings(self.check(source_of("read a / x = one(a, g(a)) / tell x"), definitions)), 0)

    def test_one_name_with_unlike_numbers_of_parts(self):
        definitions = Definitions([("f", ["p"], ("f", "p", "p")), ("f", [], ("f", ("c",)))])
        done = self.check(source_of("read a / x = f(a) / y = f(f(), a) / tell x / tell y"), definitions)
        self.assertEqual(fewest_makings(done), 4)

    def test_idle_terms_and_nothing_told(self):
        definitions = Definitions([SQUARE, ("r", ["p"], ("r", "p"))])
        done = self.check(source_of("read a / read b / x = r(a) / y = sq(x) / x = sq(b) / tell x / tell a"), definitions)
        self.assertEqual(done.reads(), ["a", "b"])
        self.assertNotIn("r(", source_text(done))
        self.check(source_of("read a / x = r(a)"), definitions)
        self.check(Source([]), definitions)
        self.check(T, NONE)

    def test_rings(self):
        ring = [("d", ["p"], ("e", "p", "p")), ("e", ["p", "q"], ("d", "p"))]
        source = source_of("read a / x = h(e(a, a)) / tell x")
        self.assertEqual(ring_of_uses(source, Definitions(ring)), [("d", 1), ("e", 2)])
        self.assertIsNone(expanded(source, Definitions(ring)))
        self.assertIsNone(ring_of_uses(source_of("read a / x = h(e(a)) / tell x"), Definitions(ring)))
        self.check(source_of("read a / x = d(a) / x = h(a) / tell x"), Definitions(ring))
        self.assertEqual(ring_of_uses(source, Definitions(ring + [("h", ["p"], ("h", "p"))])), [("h", 1)])
        self.assertEqual(ring_of_uses(source, Definitions(ring + [("h", ["p"], ("c",))])), [("d", 1), ("e", 2)])

    def test_a_ring_below_a_name_that_is_dropped(self):
        definitions = Definitions([("one", ["p", "q"], "p"), ("r", ["p"], ("r", "p"))])
        source = source_of("read a / x = one(a, r(a)) / tell x")
        self.assertEqual(ring_of_uses(source, definitions), [("r", 1)])
        self.assertIsNone(expanded(source, definitions))
        definitions = Definitions([("one", ["p", "q"], "p"), ("s", ["p"], ("one", "p", ("s", "p")))])
        self.assertEqual(ring_of_uses(source_of("read a / x = s(a) / tell x"), definitions), [("s", 1)])

    def test_what_is_dropped_may_be_too_great_to_be_worked_out(self):
        rows = [("d0", ["p"], ("f", "p", "p"))]
        for at in range(1, 9):
            expr = "p"
            for _ in range(20):
                expr = (f"d{at - 1}", expr)
            rows.append((f"d{at}", ["p"], expr))
        rows.append(("one", ["p", "q"], ("g", "p")))
        rows.append(("two", ["p", "q"], ("one", ("one", "q", ("d8", "p")), ("d8", ("d8", "q")))))
        source = source_of("read a / read b / x = two(d8(b), a) / y = one(d0(a), d8(d8(x))) / tell x / tell y")
        done = expanded(source, Definitions(rows))
        twice = ("g", ("g", ("read", "a")))
        self.assertEqual(written(done)[2], [("x", twice), ("y", ("g", ("f", ("read", "a"), ("read", "a"))))])
        self.assertEqual(fewest_makings(done), 4)

    def test_the_first_of_the_shortest(self):
        rows = [("a", ["p"], ("b", "p")), ("b", ["p"], ("c", ("d", "p"))), ("c", ["p"], ("a", "p")), ("d", ["p"], ("e", "p")),
                ("e", ["p"], ("d", "p")), ("g", ["p"], ("h", "p")), ("h", ["p"], ("g", "p"))]
        source = source_of("read v / x = g(a(v)) / tell x")
        self.assertEqual(ring_of_uses(source, Definitions(rows)), [("d", 1), ("e", 1)])
        self.assertEqual(ring_of_uses(source, Definitions(rows[:3] + rows[5:])), [("g", 1), ("h", 1)])
        self.assertEqual(ring_of_uses(source, Definitions(rows[:3])), [("a", 1), ("b", 1), ("c", 1)])
        rows = [("a", ["p"], ("f", ("c", "p"), ("b", "p"))), ("b", ["p"], ("d", "p")), ("c", ["p"], ("d", "p")), ("d", ["p"], ("a", "p"))]
        self.assertEqual(ring_of_uses(source, Definitions(rows)), [("a", 1), ("b", 1), ("d", 1)])
        rows[0] = ("a", ["p"], ("f", ("b", "p"), ("c", "p")))
        self.assertEqual(ring_of_uses(source, Definitions(rows)), [("a", 1), ("b", 1), ("d", 1)])
        rows = [("a", ["p"], ("a", "p", "p")), ("a", ["p", "q"], ("a", "p"))]
        self.assertEqual(ring_of_uses(source, Definitions(rows)), [("a", 1), ("a", 2)])

    def test_random_definitions(self):
        rings = 0
        for rng, source in some_sources(741, 900):
            rings += self.check(source, random_definitions(rng, ring=0.8)) is None
        self.assertGreater(rings, 25)
        self.assertLess(rings, 800)
        for rng, source in some_sources(742, 100):
            self.check(source, random_definitions(rng, ring=0))

    def test_the_same_for_whatever_order_of_rows(self):
        for rng, source in some_sources(743, 60):
            definitions = random_definitions(rng)
            rows = definitions.rows()
            other = Definitions(tuple(rng.sample(rows, len(rows))))
            self.assertEqual(expanded(source, definitions), expanded(Source(source.lines()), other))

    def test_no_source(self):
        for thing in OBJECTS + [Order(0, []), NONE]:
            for ask in (expanded, ring_of_uses):
                with self.assertRaises(BadSource) as caught:
                    ask(thing, NONE)
                self.assertIs(caught.exception.thing, thing)


if __name__ == "__main__":
    unittest.main()
