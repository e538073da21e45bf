"""[8]: the texts of sources."""

import unittest

from twoslots.errors import BadSource, BadText
from twoslots.programs import Program
from twoslots.sources import Source
from twoslots.sourcetexts import goes_on, read_source, source_fault, source_text

from tests.samples import NO_STRINGS, OBJECTS, T_LINES, T_TEXT, random_sources


class SourceTexts(unittest.TestCase):
    def test_there_and_back(self):
        self.assertEqual(source_text(Source(T_LINES)), T_TEXT)
        self.assertEqual(read_source(T_TEXT), Source(T_LINES))
        self.assertEqual(read_source(T_TEXT).lines(), T_LINES)

    def test_the_empty_text(self):
        self.assertEqual(source_text(Source([])), "")
        self.assertEqual(read_source("").lines(), [])
        self.assertIsNone(source_fault(""))
        self.assertEqual(goes_on(""), "")

    def test_each_kind_of_line(self):
        lines = [("give", "abcdefgh", ("f",)), ("read", "b"), ("give", "c", "b"),
                 ("give", "reads", ("g2", ("f",), "b", ("f", "abcdefgh"))), ("tell", "reads")]
        text = "abcdefgh = f()\nread b\nc = b\nreads = g2(f(), b, f(abcdefgh))\ntell reads\n"
        self.assertEqual(source_text(Source(lines)), text)
        self.assertEqual(read_source(text).lines(), lines)

    def test_random_sources(self):
        for source in random_sources(11, 300):
            text = source_text(source)
            self.assertEqual(read_source(text), source)
            self.assertEqual(read_source(text).lines(), source.lines())
            self.assertIsNone(source_fault(text))
            self.assertEqual(goes_on(text)[:len(text)], text)

    def test_unlike_sources_have_unlike_texts(self):
        rows = random_sources(12, 80, lines=3, depth=1)
        for one in rows:
            for other in rows:
                self.assertEqual(source_text(one) == source_text(other), one == other)

    def test_bad_text_has_its_place(self):
        for text, place in (("read a\nx = b\n", (2, 6)), ("x", (1, 2)), ("\n", (1, 1)), ("read a\n\n", (2, 1)),
                            ("read a", (1, 7)), ("tell a\n", (1, 5)), ("read a\r\n", (1, 7))):
            with self.assertRaises(BadText) as caught:
                read_source(text)
            self.assertEqual((caught.exception.line, caught.exception.sign), place, text)
            self.assertEqual(source_fault(text), place)

    def test_no_string(self):
        for thing in NO_STRINGS + [b"", b"read a\n", Source([])]:
            with self.assertRaises(BadText) as caught:
                read_source(thing)
            self.assertEqual((caught.exception.line, caught.exception.sign), (0, 0))
            self.assertEqual(source_fault(thing), (0, 0))
            self.assertIsNone(goes_on(thing))

    def test_no_source(self):
        for thing in OBJECTS + [T_TEXT, T_LINES, Program([], [], [])]:
            with self.assertRaises(BadSource) as caught:
                source_text(thing)
            self.assertIs(caught.exception.thing, thing)


if __name__ == "__main__":
    unittest.main()
