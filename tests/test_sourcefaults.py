"""[9]: the first wrong sign of what should be a source's text, and how a text goes on."""

import unittest

from twoslots.sourcetexts import goes_on, read_source, source_fault, source_text

from tests.faultchecks import FaultChecks
from tests.oracles import is_source_text, source_ends
from tests.samples import T_TEXT, random_sources

SIGNS = "abrtlezq09(),= \n-|AZ_\t\r%\xe9\xb2"
MIXED = (
    "read ab\n"
    "abcdefgh = f()\n"
    "x = g(ab, abcdefgh, f(x1()))\n"
    "tell ab\n"
    "reads = x\n"
    "ab = tells(reads, ab)\n"
    "tell reads\n"
)


class Checks(FaultChecks):
    fault_of = staticmethod(source_fault)
    goes_on_of = staticmethod(goes_on)
    is_text = staticmethod(is_source_text)
    ends = staticmethod(source_ends)


class Examples(Checks):
    def fault_in_line_2(self, text, sign):
        self.assertEqual(source_fault("read a\n" + text), (2, sign), text)

    def test_of_the_document(self):
        self.fault_in_line_2("x = f(b)", 8)
        self.fault_in_line_2("x = b\n", 6)
        self.fault_in_line_2("x = f(a,a)", 9)
        self.fault_in_line_2("read a\n", 7)
        self.fault_in_line_2("tell b", 6)
        self.fault_in_line_2("\n", 1)
        self.fault_in_line_2("x = f(a", 8)
        self.assertEqual(source_fault("read a\ntell a\ntell "), (3, 5))
        self.assertTrue(is_source_text(goes_on("read a\nx = f(b")))
        self.assertTrue(is_source_text(goes_on("read a\ntell a\ntell")))

    def test_whole_texts(self):
        for text in (T_TEXT, MIXED, "", "x = f()\n", "read a\nread ab\ntell a\ntell ab\n"):
            self.assertIsNone(source_fault(text))
            self.assertIsNotNone(goes_on(text))

    def test_ends_amid_a_line(self):
        for text, place in (("r", (1, 2)), ("read", (1, 5)), ("read ", (1, 6)), ("read a", (1, 7)), ("x =", (1, 4)),
                            ("x = f()", (1, 8)), ("read a\ntell a", (2, 7)), ("read a\nx = f(a, ", (2, 10))):
            self.assertEqual(source_fault(text), place)
            self.assertTrue(goes_on(text).startswith(text))

    def test_words_that_are_no_names(self):
        for text, sign in (("read =", 6), ("read read\n", 10), ("read tell\n", 10), ("tell =", 5), ("x = read(", 9),
                           ("x = read\n", 9), ("x = tell(", 9), ("x = f(read)", 11), ("x = f(tell,", 11),
                           ("1", 1), ("x = 1", 5), ("x = f(1", 7), ("A", 1), ("xY", 2), ("x  =", 3), ("x=", 2),
                           ("x =f", 4), ("x = f( ", 7), ("x = f (", 6), ("x = f())", 8), ("x = ()", 5),
                           ("x = f(,", 7), ("x = f(g(),)", 11), (" ", 1), ("x = f()\r", 8), ("read  a", 6),
                           ("reads a", 7), ("tells x", 7), ("tell x", 5), ("x = f(g(), )", 12), ("x = f()a", 8)):
            self.assertEqual(source_fault(text), (1, sign), text)
            self.assertIsNone(goes_on(text))
        for text in ("reads", "tell1", "x = reads(tells())\n", "read reads\n", "x = read", "x = f(tell"):
            self.assertTrue(is_source_text(goes_on(text)), text)

    def test_names_of_nine_signs(self):
        for text, sign in (("abcdefghi", 9), ("read abcdefghi", 14), ("x = abcdefghi", 13), ("x = f(abcdefghi", 15)):
            self.assertEqual(source_fault(text), (1, sign))
        self.assertEqual(source_fault("abcdefgh = f()\ntell abcdefghi"), (2, 14))
        self.assertEqual(source_fault("read abcdefgh\nread abcdefgh"), (2, 13))
        self.assertEqual(source_fault("read abcdefgh\nabcdefgh = f()\nread abcdefgh\n"), (3, 13))
        self.assertIsNone(source_fault("read abcdefgh\nread abcdefgi\nx = abcdefgh\n"))

    def test_tells_follow_names_alone(self):
        self.assertEqual(source_fault("read abc\nread abd\ntell abe"), (3, 8))
        self.assertEqual(source_fault("read abc\nread abd\ntell abc\ntell abc"), (4, 8))
        self.assertEqual(source_fault("read abc\nread ab\ntell ab\ntell ab\n"), (4, 8))
        self.assertEqual(source_fault("read ab\ntell ab\nab = f()\ntell "), (4, 5))
        self.assertEqual(source_fault("tell "), (1, 5))

    def test_a_name_given_twice_is_one_name_to_tell(self):
        self.assertEqual(source_fault("x = f()\nx = f()\ntell x\ntell "), (4, 5))
        self.assertEqual(source_fault("x = f()\nx = f()\ny = f()\ntell x\ntell x"), (5, 6))

    def test_a_name_is_known_behind_its_line_alone(self):
        self.assertEqual(source_fault("x = x\n"), (1, 6))
        self.assertEqual(source_fault("x = f(x)\n"), (1, 8))
        self.assertIsNone(source_fault("x = x()\nx = x(x)\n"))


class RunOut(Checks):
    def test_names_of_seven_signs_and_more(self):
        ends = [""] + list("abcdefghijklmnopqrstuvwxyz0123456789")
        rows = [f"read abcdefg{end}\n" for end in ends[:20]] + [f"abcdefg{end} = f()\n" for end in ends[20:]]
        text = "".join(rows)
        self.assertEqual(source_fault(text + "read abcdefg"), (38, 12))
        self.assertEqual(source_fault(text + "read abcdef"), (38, 12))
        self.assertTrue(is_source_text(goes_on(text + "read abcdef")))
        for left in range(37):
            fewer = "".join(rows[:left] + rows[left + 1:])
            self.assertEqual(goes_on(fewer + "read abcdefg"), fewer + f"read abcdefg{ends[left]}\n")
        self.assertTrue(is_source_text(goes_on(text + "x = abcdefg")))
        self.assertTrue(is_source_text(goes_on(text + "abcdefg")))

    def test_a_name_given_twice_is_one_name_taken(self):
        signs = "abcdefghijklmnopqrstuvwxyz0123456789"
        text = "abcdefg = f()\n" * 3 + "".join(f"abcdefg{sign} = f()\n" for sign in signs[:-1])
        self.assertEqual(goes_on(text + "read abcdefg"), text + "read abcdefg9\n")
        self.assertEqual(source_fault(text + "read abcdefg\n"), (39, 13))
        self.assertEqual(source_fault(text + "read abcdefg9\nread abcdefg"), (40, 12))

    def test_names_of_six_signs_and_more(self):
        signs = "abcdefghijklmnopqrstuvwxyz0123456789"
        names = ["abcdef"] + ["abcdef" + one for one in signs]
        names += ["abcdef" + one + other for one in signs for other in signs]
        self.assertEqual(len(names), 1333)
        text = "".join(f"read {name}\n" for name in names)
        self.assertLess(len(text), 20000)
        self.assertIsNone(source_fault(text))
        self.assertEqual(source_fault(text + "read abcdef"), (1334, 11))
        self.assertEqual(source_fault(text + "read abcde"), (1334, 11))
        fewer = text.replace("read abcdefxy\n", "")
        self.assertEqual(goes_on(fewer + "read abcdef"), fewer + "read abcdefxy\n")
        self.assertEqual(source_fault(fewer + "read abcdefy"), (1333, 12))

    def test_names_that_begin_as_words_do(self):
        self.assertEqual(goes_on("read read")[:9], "read read")
        self.assertTrue(is_source_text(goes_on("read read")))
        self.assertTrue(is_source_text(goes_on("read tel")))


class Near(Checks):
    def test_all_cuts_and_one_sign_otherwise(self):
        self.check_all_near(T_TEXT, SIGNS)
        self.check_all_near(MIXED, SIGNS)

    def test_random_sources(self):
        for source in random_sources(31, 12, lines=5, names=["a", "ab", "r", "rea", "tel", "abcdefgh"]):
            self.check_all_near(source_text(source), "ab(,) =\n0")

    def test_all_short_texts(self):
        texts = [""]
        for _ in range(4):
            texts = [text + sign for text in texts for sign in "ra1(), =\n"]
            for text in texts:
                self.check("x = " + text)
                self.check("read a\n" + text)


class Brackets(Checks):
    def test_thousands_of_open_brackets(self):
        for many in (100, 3000, 9000):
            begun = "read a\nx = " + "f(" * many
            self.assertEqual(source_fault(begun), (2, 5 + 2 * many))
            whole = goes_on(begun)
            self.assertTrue(whole.startswith(begun))
            self.assertIsNone(source_fault(whole))
            self.assertEqual(source_text(read_source(whole)), whole)
            self.assertTrue(read_source(whole) == read_source(whole))
            self.assertEqual(source_fault(begun + "a" + ")" * (many + 1)), (2, 6 + 3 * many))
            self.assertIsNone(source_fault(begun + "a" + ")" * many + "\n"))
            self.assertEqual(source_fault(begun + "]"), (2, 5 + 2 * many))
            self.assertEqual(source_fault("x = " + "(" * many), (1, 5))


if __name__ == "__main__":
    unittest.main()
