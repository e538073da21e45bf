"""[72]: paper texts, there and back, and their first wrong signs."""

import itertools
import random
import re
import unittest

from twoslots.chains import best_chain, chain_hours
from twoslots.errors import BadChain, BadSource, BadText
from twoslots.needed import needed_terms, order_of
from twoslots.orders import Order
from twoslots.papers import paper_text, read_paper
from twoslots.sources import Source
from twoslots.sourcetexts import read_source
from twoslots.terms import places_of

from tests.hopeoracles import rich_sources
from tests.samples import NO_STRINGS, OBJECTS, T_TEXT, random_sources, source_of

T = read_source(T_TEXT)
T_PAPER = "hours 3\nblock 3.5\nblock 4.5\nblock 5.5\n"
NUMBER = "[1-9][0-9]{0,5}"
PAPER = f"hours (?:0|{NUMBER})\n(?:block {NUMBER}[.]{NUMBER}(?: {NUMBER}[.]{NUMBER})*\n)*"
ENDS = ["hours 0\n"[at:] for at in range(8)] + ["block 1.1\n"[at:] for at in range(10)] + ["", ".1\n", "1.1\n", "1\n"]


def is_paper_text(text):
    return re.fullmatch(PAPER, text) is not None


def is_beginning(text):
    return any(is_paper_text(text + end) for end in ENDS)


def fault_by_hand(text):
    """The place of the first sign behind which no paper text goes on, None of a paper text."""
    if is_paper_text(text):
        return None
    many = len(text)
    for at in range(1, len(text) + 1):
        if not is_beginning(text[:at]):
            many = at - 1
            break
    begun = text[:many].split("\n")
    return (len(begun), len(begun[-1]) + 1)


def blocks_by_hand(text):
    rows = text.split("\n")[1:-1]
    return [[tuple(map(int, word.split("."))) for word in row.split(" ")[1:]] for row in rows]


class PaperTexts(unittest.TestCase):
    def check(self, text):
        wanted = fault_by_hand(text)
        if wanted is None:
            self.assertEqual(read_paper(text), (int(text.split("\n")[0][6:]), blocks_by_hand(text)))
            return
        with self.assertRaises(BadText) as caught:
            read_paper(text)
        self.assertEqual((caught.exception.line, caught.exception.sign), wanted, text)

    def test_the_example(self):
        self.assertEqual(paper_text(T, [[0], [1], [2]]), T_PAPER)
        self.assertEqual(read_paper(T_PAPER), (3, [[(3, 5)], [(4, 5)], [(5, 5)]]))

    def test_there_and_back(self):
        for source in rich_sources(701, 60) + random_sources(702, 20):
            chain = best_chain(order_of(source))
            text = paper_text(source, chain)
            hours, blocks = read_paper(text)
            self.assertEqual(hours, chain_hours(order_of(source), chain))
            firsts = [places_of(source, number)[0][:2] for number in needed_terms(source)]
            self.assertEqual(blocks, [[firsts[thing] for thing in block] for block in chain])
            self.assertIsNone(fault_by_hand(text))

    def test_chains_that_are_not_best(self):
        self.assertEqual(paper_text(T, []), "hours 0\n")
        self.assertEqual(paper_text(T, ((0,), (2,))), "hours 2\nblock 3.5\nblock 5.5\n")
        source = source_of("read a / u = f(g(a), h(k()), m(a)) / tell u")
        self.assertEqual(paper_text(source, [[0, 1, 3], [4]]), "hours 3\nblock 2.7 2.15 2.21\nblock 2.5\n")
        self.assertEqual(read_paper("hours 3\nblock 2.7 2.15 2.21\nblock 2.5\n"), (3, [[(2, 7), (2, 15), (2, 21)], [(2, 5)]]))

    def test_the_first_places(self):
        source = source_of("read a / y = h(k(), f(a)) / x = f(a) / tell x / tell y")
        self.assertEqual(paper_text(source, [[1], [2]]), "hours 2\nblock 2.12\nblock 2.5\n")

    def test_numbers(self):
        self.assertEqual(read_paper("hours 999999\nblock 999999.999999 1.1\n"), (999999, [[(999999, 999999), (1, 1)]]))
        self.assertEqual(read_paper("hours 0\n"), (0, []))
        self.assertEqual(read_paper("hours 100000\nblock 10.20\n"), (100000, [[(10, 20)]]))
        for text, place in [("hours 1234567\n", (1, 13)), ("hours 01\n", (1, 8)), ("hours 00\n", (1, 8)), ("hours -1\n", (1, 7)),
                            ("hours 1\nblock 0.1\n", (2, 7)), ("hours 1\nblock 1.0\n", (2, 9)), ("hours 1\nblock 1.01\n", (2, 9)),
                            ("hours 1\nblock 1234567.1\n", (2, 13)), ("hours 1\nblock 1.1234567\n", (2, 15)),
                            ("hours 1\nblock 1.1  1.2\n", (2, 11)), ("hours 1\nblock 1.1 \n", (2, 11)), ("hours \n", (1, 7)),
                            ("hours 1\nblock\n", (2, 6)), ("hours 1\nblock \n", (2, 7)), ("hours 1\nblock 1\n", (2, 8)),
                            ("hours 1\n\n", (2, 1)), ("hours 1\nhours 1\n", (2, 1)), ("block 1.1\n", (1, 1)), ("", (1, 1)),
                            ("hours 1", (1, 8)), ("hours 1\nblock 1.1", (2, 10)), ("hours", (1, 6)), ("hours 1\nb", (2, 2)),
                            ("hours 1 \n", (1, 8)), ("hours 1\nblock 1.1.1\n", (2, 10)), ("hours 1\nblock .1\n", (2, 7)),
                            ("hours \xb2\n", (1, 7)), ("\n", (1, 1)), ("hours 1\nblock 1.\n", (2, 9))]:
            self.assertEqual(fault_by_hand(text), place)
            self.check(text)

    def test_blocks_that_are_no_chain_are_read(self):
        self.assertEqual(read_paper("hours 7\nblock 1.1 1.1\nblock 1.1\n"), (7, [[(1, 1), (1, 1)], [(1, 1)]]))

    def test_all_near(self):
        for text in (T_PAPER, "hours 12\nblock 3.15 10.2 9.9\nblock 999999.100000\n", "hours 0\n"):
            for at in range(len(text) + 1):
                self.check(text[:at])
                self.check(text[:at] + text[at + 1:])
                for sign in "hb01. \n9-a":
                    self.check(text[:at] + sign + text[at:])
                    self.check(text[:at] + sign + text[at + 1:])

    def test_all_short_ends(self):
        for many in range(5):
            for signs in itertools.product("10. \n", repeat=many):
                self.check("hours " + "".join(signs))
                self.check("hours 1\nblock " + "".join(signs))

    def test_random_signs(self):
        rng = random.Random(703)
        for _ in range(300):
            self.check("".join(rng.choice("hours block 10.\n") for _ in range(rng.randint(0, 12))))

    def test_no_string(self):
        for thing in NO_STRINGS + [T]:
            with self.assertRaises(BadText) as caught:
                read_paper(thing)
            self.assertEqual((caught.exception.line, caught.exception.sign), (0, 0))

    def test_no_source_and_no_chain(self):
        for thing in OBJECTS + [Order(0, [])]:
            with self.assertRaises(BadSource) as caught:
                paper_text(thing, None)
            self.assertIs(caught.exception.thing, thing)
        for thing in [None, 7, "", {}, [[]], [[0, 1]], [[1], [0]], [[0], [0]], [[3]], [0], [[0], None], [[True]], T, [[0], [2, 1]]]:
            with self.assertRaises(BadChain) as caught:
                paper_text(T, thing)
            self.assertIs(caught.exception.thing, thing)
        self.assertEqual(paper_text(Source([]), []), "hours 0\n")

    def test_told_lists_are_new(self):
        read_paper(T_PAPER)[1][0].clear()
        self.assertEqual(read_paper(T_PAPER)[1], [[(3, 5)], [(4, 5)], [(5, 5)]])


if __name__ == "__main__":
    unittest.main()
