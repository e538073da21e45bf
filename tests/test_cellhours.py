"""[50], [51]: cells and hours, a program or layers."""

import itertools
import random
import unittest

from twoslots.cellhours import cell_hours, hours_within, is_layers, layers, text_within
from twoslots.errors import BadCells, BadCount, BadSource
from twoslots.faults import first_fault
from twoslots.needed import needed_terms, order_of
from twoslots.orders import Order
from twoslots.plans import fewest_hours
from twoslots.sources import Source
from twoslots.sourcetexts import read_source

from tests.programsamples import tells_the_same
from tests.samples import NO_STRINGS, OBJECTS, T_TEXT, random_sources, source_of, term_list, term_parts, written

T = read_source(T_TEXT)
NOT_AGAIN = source_of("read a / x = f(a) / y = g(x, a) / z = h(y, y) / tell z / tell a / tell x")
# With two cells x is to be made twice.
TWICE = source_of("x = k() / p = f(x) / q = j() / r = h(p, q) / z = m(r, x) / tell z")
CROSSED = source_of("read a / read b / x = f(a) / y = f(b) / z = g(x, b) / w = g(y, a) / tell z / tell w")


class Values:
    """The values of a source as nested tuples, and what they are made of."""

    def __init__(self, source):
        terms = term_list(source)
        needed = needed_terms(source)
        self.numbers = [at for at, term in enumerate(terms) if term[0] == "read" or at in needed]
        self.reads = frozenset(at for at, term in enumerate(terms) if term[0] == "read")
        self.parts = {at: frozenset(terms.index(part) for part in term_parts(terms[at])) for at in needed}
        self.told = frozenset(terms.index(term) for _, term in written(source)[2])

    def makeable(self, held):
        return [number for number, parts in self.parts.items() if parts <= held]


def contents_next(values, cells):
    """All that the cells of a machine can hold behind an hour; a cell holds a value or None."""
    held = frozenset(cells) - {None}
    found = {cells}
    for one in values.makeable(held):
        for at in range(len(cells)):
            first = cells[:at] + (one,) + cells[at + 1:]
            found.add(first)
            for other in values.makeable(held):
                for to in range(len(cells)):
                    if to != at:
                        found.add(first[:to] + (other,) + first[to + 1:])
    return found


def hours_by_machine(source, cells):
    """From the sets of values that lie in cells to the least hour behind which they can."""
    values = Values(source)
    if len(values.reads) > cells:
        return {}
    start = tuple(sorted(values.reads)) + (None,) * (cells - len(values.reads))
    hours = {start: 0}
    queue = [start]
    for one in queue:
        for other in contents_next(values, one):
            if other not in hours:
                hours[other] = hours[one] + 1
                queue.append(other)
    found = {}
    for one, hour in hours.items():
        held = frozenset(one) - {None}
        found[held] = min(hour, found.get(held, hour))
    return found


def least_by_machine(source, cells):
    told = Values(source).told
    return min([hour for held, hour in hours_by_machine(source, cells).items() if told <= held], default=None)


def greatest_by_machine(source, cells, hours):
    """The layer behind so many hours: the greatest states that can be come to in these or fewer."""
    states = [held for held, hour in hours_by_machine(source, cells).items() if hour <= hours]
    return sorted(sorted(held) for held in states if not any(held < other for other in states))


def small_sources(seed, many, most):
    """Sources of few values that want some hours."""
    rng = random.Random(seed)
    found = []
    while len(found) < many:
        for source in random_sources(rng.random(), 20, lines=10, depth=1, names="abcxy"):
            values = Values(source)
            if len(values.numbers) <= most and fewest_hours(order_of(source)) > 1 and len(values.reads) < 4:
                found.append(source)
    return found[:many]


class Hours(unittest.TestCase):
    def test_the_examples(self):
        self.assertEqual(cell_hours(T), [(2, 3)])
        self.assertEqual([hours_within(T, cells) for cells in (0, 1, 2, 3, 999)], [None, None, 3, 3, 3])
        one = source_of("read a / x = f(a) / tell x")
        self.assertEqual(cell_hours(one), [(1, 1)])
        self.assertEqual(text_within(one, 1, 1).hours(), [[(1, "f", (1,))]])

    def test_values_made_more_than_once(self):
        self.assertEqual(cell_hours(TWICE), [(2, 4)])
        text = text_within(TWICE, 2, 4)
        self.assertTrue(tells_the_same(TWICE, text))
        self.assertEqual(len([part for hour in text.hours() for part in hour if part[1] == "k"]), 2)
        self.assertEqual(len(needed_terms(TWICE)), 5)
        again = source_of("read a / u = f(a) / v = g(u, a) / w = h(v, u) / x = k(w, a) / y = m(x, u) / tell y")
        self.assertEqual([hours_within(again, cells) for cells in range(1, 6)],
                         [least_by_machine(again, cells) for cells in range(1, 6)])

    def test_no_reads_and_nothing_told(self):
        self.assertEqual(cell_hours(Source([])), [(0, 0)])
        self.assertEqual(cell_hours(source_of("x = k() / tell x")), [(1, 1)])
        self.assertEqual(cell_hours(source_of("read a / read b / x = f(a)")), [(2, 0)])
        self.assertEqual(hours_within(source_of("read a / read b / x = f(a)"), 1), None)
        self.assertEqual(cell_hours(source_of("read a / read b / x = f(a) / tell b / tell x")), [(2, 1)])
        self.assertEqual(cell_hours(source_of("read a / x = f(a) / y = g(a) / tell x / tell y")), [(2, 1)])

    def test_fewer_cells_that_want_more_hours(self):
        source = source_of("w = a() / x = b() / y = c() / z = d() / u = f(w, x) / v = f(y, z) / t = g(u, v) / tell t")
        self.assertEqual(cell_hours(source), [(3, 5), (4, 4)])
        self.assertEqual([hours_within(source, cells) for cells in range(6)], [None, None, None, 5, 4, 4])

    def test_small_sources_against_a_machine(self):
        for source in small_sources(421, 40, 5) + [TWICE, CROSSED, NOT_AGAIN]:
            least = {cells: least_by_machine(source, cells) for cells in range(5)}
            for cells, hours in least.items():
                self.assertEqual(hours_within(source, cells), hours, (source.lines(), cells))
            pairs = [(cells, hours) for cells, hours in least.items()
                     if hours is not None and hours != least.get(cells - 1)]
            self.assertEqual([pair for pair in cell_hours(source) if pair[0] < 5], pairs)
            self.assertEqual(cell_hours(source)[-1][1], fewest_hours(order_of(source)))

    def test_hours_fall_with_cells(self):
        for source in small_sources(422, 30, 8):
            pairs = cell_hours(source)
            for (cells, hours), (more, fewer) in itertools.pairwise(pairs):
                self.assertTrue(cells < more and hours > fewer)
                self.assertEqual(hours_within(source, more - 1), hours)
            self.assertIsNone(hours_within(source, pairs[0][0] - 1) if pairs[0][0] else None)


class Texts(unittest.TestCase):
    def check(self, source, cells, hours):
        text = text_within(source, cells, hours)
        least = hours_within(source, cells)
        self.assertEqual(text is None, least is None or least > hours)
        if text is None:
            return
        self.assertIsNone(first_fault(text))
        self.assertTrue(tells_the_same(source, text))
        self.assertEqual([name for name, _ in text.reads()], source.reads())
        self.assertEqual(len(text.hours()), hours)
        used = [cell for _, cell in text.reads() + text.tells()] + [part[0] for hour in text.hours() for part in hour]
        self.assertTrue(all(cell <= cells for cell in used))
        again = Source([list(line) for line in source.lines()])
        self.assertEqual(text_within(again, cells, hours), text)

    def test_just_so_many_hours(self):
        for hours in (3, 4, 10):
            self.check(T, 2, hours)
            self.assertEqual(text_within(T, 2, hours).hours()[3:], [[]] * (hours - 3))
        self.assertIsNone(text_within(T, 2, 2))
        self.assertIsNone(text_within(T, 1, 9))

    def test_small_sources(self):
        for source in small_sources(423, 40, 7) + [TWICE, CROSSED, NOT_AGAIN]:
            for cells in [*range(6), 999]:
                for hours in range(6):
                    self.check(source, cells, hours)


class Layers(unittest.TestCase):
    def test_the_example(self):
        wanted = [[[0, 1]], [[0, 1], [0, 2], [1, 2]], [[0, 1], [0, 2], [0, 3], [1, 2], [1, 3], [2, 3]]]
        self.assertEqual(layers(T, 2, 2), wanted)
        self.assertTrue(is_layers(T, 2, 2, wanted))
        self.assertIsNone(layers(T, 2, 3))

    def test_fewer_cells_than_reads(self):
        for cells in (0, 1):
            for hours in (0, 1, 7):
                self.assertEqual(layers(T, cells, hours), [])
                self.assertTrue(is_layers(T, cells, hours, ()))
                for thing in NO_STRINGS + [[[]], [[], []], [[[0, 1]]], [[[0]]]]:
                    self.assertIs(is_layers(T, cells, hours, thing), thing in ([], ()))
        self.assertFalse(is_layers(T, 2, 0, []))

    def test_just_one_of_a_text_and_layers(self):
        for source in small_sources(424, 40, 7) + [TWICE, CROSSED, NOT_AGAIN]:
            for cells in range(5):
                for hours in range(6):
                    told = layers(source, cells, hours)
                    self.assertEqual((told is None) + (text_within(source, cells, hours) is None), 1)
                    if told is not None:
                        self.assertTrue(is_layers(source, cells, hours, told))

    def test_the_greatest_states_that_can_be_come_to(self):
        for source in small_sources(425, 30, 5) + [TWICE, CROSSED]:
            for cells in range(len(Values(source).reads), 5):
                for hours in range(5):
                    told = layers(source, cells, hours)
                    if told is not None:
                        wanted = [greatest_by_machine(source, cells, hour) for hour in range(hours + 1)]
                        self.assertEqual(told, wanted)

    def test_told_lists_are_new(self):
        told = layers(TWICE, 2, 3)
        kept = [[list(state) for state in layer] for layer in told]
        parts = [id(part) for part in told] + [id(state) for layer in told for state in layer]
        self.assertEqual(len(parts), len(set(parts)))
        told[0][0].append(7)
        told[3].clear()
        self.assertEqual(layers(TWICE, 2, 3), kept)
        # Behind the hour from which on there is no state more, too.
        told = layers(NOT_AGAIN, 2, 9)
        self.assertEqual(told[8], told[9])
        self.assertIsNot(told[8], told[9])
        self.assertIsNot(told[8][0], told[9][0])


class IsLayers(unittest.TestCase):
    def by_hand(self, source, cells, hours, thing):
        """By the words of [51], of a list of lists of states."""
        values = Values(source)
        if cells < len(values.reads):
            return thing == []
        if len(thing) != hours + 1 or not any(values.reads <= set(state) for state in thing[0]):
            return False
        states = [set(state) for many in range(cells + 1) for state in itertools.combinations(values.numbers, many)]
        for one, other in itertools.pairwise(thing):
            for state in one:
                behind = [later for later in states if len(later - set(state)) <= 2
                          and all(new in values.parts and values.parts[new] <= set(state) for new in later - set(state))]
                if not all(any(later <= set(over) for over in other) for later in behind + [set(state)]):
                    return False
        return not any(values.told <= set(state) for state in thing[-1])

    def test_changed_ones(self):
        rng = random.Random(426)
        right = wrong = 0
        for source in small_sources(427, 25, 6) + [TWICE, CROSSED]:
            for cells, hours in itertools.product(range(1, 5), range(4)):
                told = layers(source, cells, hours)
                for _ in range(6 if told else 0):
                    thing = [rng.sample(layer, len(layer)) for layer in told]
                    self.assertTrue(is_layers(source, cells, hours, thing))
                    at = rng.randrange(len(thing))
                    if rng.random() < 0.5 and thing[at]:
                        thing[at].pop()
                    else:
                        every = Values(source).numbers
                        thing[at].append(sorted(rng.sample(every, min(len(every), rng.randint(0, cells)))))
                    wanted = self.by_hand(source, cells, hours, thing)
                    self.assertEqual(is_layers(source, cells, hours, thing), wanted, (source.lines(), cells, thing))
                    right += wanted
                    wrong += not wanted
        self.assertGreater(min(right, wrong), 50)

    def test_all_states_of_one_layer_alone(self):
        """With no hours: any states, one of them with all reads, none with all that is told."""
        values = Values(CROSSED).numbers
        for many in range(4):
            for state in itertools.combinations(values, many):
                wanted = {0, 1} <= set(state)
                self.assertEqual(is_layers(CROSSED, 3, 0, [[state]]), wanted)
                done = Values(CROSSED).told <= set(state)
                self.assertEqual(is_layers(CROSSED, 3, 0, [[[0, 1], state]]), not done)
        self.assertFalse(is_layers(CROSSED, 4, 0, [[[0, 1], [4, 5]]]))

    def test_lists_and_tuples_and_states_that_stand_twice(self):
        told = layers(T, 2, 2)
        self.assertTrue(is_layers(T, 2, 2, tuple(tuple(tuple(state) for state in layer) for layer in told)))
        self.assertTrue(is_layers(T, 2, 2, [layer + layer[::-1] + [[]] for layer in told]))

    def test_any_object(self):
        for thing in OBJECTS + [T]:
            self.assertIs(is_layers(T, 2, 2, thing), False)
            self.assertIs(is_layers(T, 2, 0, [thing]), False)
            if thing not in ([], ()):
                self.assertIs(is_layers(T, 2, 0, [[[0, 1], thing]]), False, thing)
            self.assertIs(is_layers(T, 2, 0, [[[0, 1], [thing]]]), thing in (0, 1) and not isinstance(thing, bool))
        for state in ([1, 0], [0, 0], [0, 1, 2], [0, 5], [-1], [True], [0, 10 ** 12]):
            self.assertIs(is_layers(T, 2, 0, [[[0, 1], state]]), False)
        idle = source_of("read a / x = f(a) / y = g(a) / tell y")
        self.assertTrue(is_layers(idle, 2, 0, [[[0]]]))
        self.assertFalse(is_layers(idle, 2, 0, [[[0], [1]]]))
        self.assertFalse(is_layers(T, 2, 2, layers(T, 2, 2)[:2]))
        self.assertFalse(is_layers(T, 2, 1, layers(T, 2, 2)))


class Errors(unittest.TestCase):
    def asks(self):
        return [lambda source, cells, hours: hours_within(source, cells), text_within, layers,
                lambda source, cells, hours: is_layers(source, cells, hours, None)]

    def test_bad_source(self):
        for thing in OBJECTS + [Order(0, [])]:
            for ask in self.asks() + [lambda source, cells, hours: cell_hours(source)]:
                with self.assertRaises(BadSource) as caught:
                    ask(thing, None, None)
                self.assertIs(caught.exception.thing, thing)

    def test_bad_cells(self):
        for thing in [-1, 1000, True, False, None, "2", [2], {}, T, 10 ** 9]:
            for ask in self.asks():
                with self.assertRaises(BadCells) as caught:
                    ask(T, thing, None)
                self.assertIs(caught.exception.thing, thing)

    def test_bad_count(self):
        for thing in [-1, True, False, None, "2", [2], {}, T, -10 ** 9]:
            for ask in self.asks()[1:]:
                for cells in (0, 2, 999):
                    with self.assertRaises(BadCount) as caught:
                        ask(T, cells, thing)
                    self.assertIs(caught.exception.thing, thing)


if __name__ == "__main__":
    unittest.main()
