"""[13]: the first wrong sign of what should be a program's text, and how a text goes on."""

import unittest

from twoslots.programtexts import program_fault, program_goes_on, program_text, read_program

from tests.faultchecks import FaultChecks
from tests.oracles import is_program_text, program_ends
from tests.samples import P_TEXT
from tests.test_programtexts import random_programs

SIGNS = "artez019-|=(), \nAZ_\t\r%\xe9\xb2"
MIXED = "read ab 1\nread abcdefgh 12\n-\n12 = f() | 345 = g(1, 12)\n1 = h2(1)\ntell reads 9\ntell ab 123\n"


class Checks(FaultChecks):
    fault_of = staticmethod(program_fault)
    goes_on_of = staticmethod(program_goes_on)
    is_text = staticmethod(is_program_text)
    ends = staticmethod(program_ends)


class Examples(Checks):
    def test_of_the_document(self):
        for text, place in (("read a 1\nread b 1\n", (2, 9)), ("01 = f()", (1, 1)), ("1 = f(2,3)", (1, 9)),
                            ("1 = f() | 2 = f() |", (1, 18)), ("tell a 1\n-", (2, 1)), ("1 = 2", (1, 5))):
            self.assertEqual(program_fault(text), place)
        self.assertTrue(is_program_text(program_goes_on("read a 1\nread b 1")))

    def test_parts_in_their_order(self):
        for text, place in (("-\nread a 1\n", (2, 1)), ("1 = f()\nr", (2, 1)), ("tell a 1\nread", (2, 1)),
                            ("tell a 1\n1", (2, 1)), ("-\n-\ntell a 1\nt-", (4, 2)), ("- ", (1, 2)), ("-1", (1, 2))):
            self.assertEqual(program_fault(text), place)
        self.assertIsNone(program_fault("read a 1\ntell b 2\ntell a 2\n"))

    def test_wrong_signs(self):
        for text, sign in (("1000", 4), ("1 = f(1000", 10), ("read a 1000", 11), ("tell a 1000", 11), ("0", 1),
                           ("1 = f(0", 7), ("1 = f(1, 0", 10), ("read a 0", 8), ("read a  ", 8), ("tell a 0", 8),
                           ("1 = f( 1", 7), ("1 = f(1,)", 9), ("1 = f(1, )", 10), ("1=f()", 2), ("1  =", 3),
                           ("1 = f(a", 7), ("1 = f()|", 8), ("1 = f()  ", 9), ("1 = f() 2", 9), ("1 = f() | -", 11),
                           ("1 = read(", 9), ("1 = tell(", 9), ("read read ", 10), ("tell tell ", 10), ("x", 1),
                           ("read a\n", 7), ("read a \n", 8), ("tell a\n", 7), ("1\n", 2), ("1 = f\n", 6),
                           ("1 = (", 5), ("1 = f(()", 7), ("read 1", 6), ("R", 1), ("1 = f())", 8), ("1 = abcdefghi", 13),
                           ("read abcdefghi", 14), ("tell abcdefghi", 14), ("\xb2 = f()", 1), ("1 = f(\xb2", 7)):
            self.assertEqual(program_fault(text), (1, sign), text)
            self.assertIsNone(program_goes_on(text))

    def test_unlike_names(self):
        self.assertEqual(program_fault("read abcdefgh 1\nread abcdefgh"), (2, 13))
        self.assertEqual(program_fault("tell abcdefgh 1\ntell abcdefgh"), (2, 13))
        self.assertEqual(program_fault("read a 1\nread a "), (2, 7))
        self.assertEqual(program_fault("tell a 1\ntell a "), (2, 7))
        self.assertIsNone(program_fault("read a 1\ntell a 1\ntell b 1\n"))


class RunOut(Checks):
    def test_cells_of_three_figures(self):
        self.assertEqual(program_fault("read a 123\nread b 123"), (2, 10))
        self.assertEqual(program_fault("read a 12\nread b 12\n"), (2, 10))

    def test_cells_that_begin_so(self):
        cells = [12] + list(range(120, 130))
        text = "".join(f"read a{cell} {cell}\n" for cell in cells)
        self.assertEqual(program_fault(text + "read b 12"), (12, 9))
        self.assertEqual(program_fault(text + "read b 1"), (12, 9))
        for left in cells:
            fewer = "".join(f"read a{cell} {cell}\n" for cell in cells if cell != left)
            self.assertEqual(program_goes_on(fewer + "read b 12"), fewer + f"read b {left}\n")
        cells = [cell for cell in range(1, 1000) if str(cell).startswith("1")]
        self.assertEqual(len(cells), 111)
        text = "".join(f"read a{cell} {cell}\n" for cell in cells)
        self.assertEqual(program_fault(text + "read b 1"), (112, 8))
        self.assertEqual(program_fault(text + "read b 2\n-\n"), None)

    def test_all_cells(self):
        text = "".join(f"read a{cell} {cell}\n" for cell in range(1, 1000))
        self.assertLess(len(text), 20000)
        self.assertIsNone(program_fault(text))
        self.assertEqual(program_fault(text + "r"), (1000, 1))
        self.assertIsNone(program_goes_on(text + "r"))
        self.assertEqual(program_goes_on(text + "t")[:len(text) + 4], text + "tell")
        fewer = text.replace("read a707 707\n", "")
        self.assertTrue(program_goes_on(fewer + "r").endswith(" 707\n"))
        self.assertEqual(program_fault(fewer + "read b 8"), (999, 8))
        self.assertEqual(program_fault(fewer + "read b 78"), (999, 9))
        self.assertEqual(program_fault(fewer + "read b 70\n"), (999, 10))

    def test_names_that_begin_so(self):
        ends = [""] + list("abcdefghijklmnopqrstuvwxyz0123456789")
        reads = "".join(f"read abcdefg{end} {at}\n" for at, end in enumerate(ends, 1))
        tells = "".join(f"tell abcdefg{end} 1\n" for end in ends)
        self.assertEqual(program_fault(reads + "read abcdefg"), (38, 12))
        self.assertEqual(program_fault(tells + "tell abcdefg"), (38, 12))
        self.assertTrue(is_program_text(program_goes_on(reads + "tell abcdefg")))
        fewer = reads.replace("read abcdefgh 9\n", "")
        self.assertTrue(program_goes_on(fewer + "read abcdefg").startswith(fewer + "read abcdefgh "))


class Near(Checks):
    def test_all_cuts_and_one_sign_otherwise(self):
        self.check_all_near(P_TEXT, SIGNS)
        self.check_all_near(MIXED, SIGNS)

    def test_random_programs(self):
        for program in random_programs(51, 6):
            self.check_all_near(program_text(program), "a1(), =|\n-")

    def test_all_short_texts(self):
        texts = [""]
        for _ in range(4):
            texts = [text + sign for text in texts for sign in "a1(), \n"]
            for text in texts:
                self.check("1 = f(" + text)
                self.check("read a 1\nread b " + text)


class Brackets(Checks):
    def test_thousands_of_open_brackets(self):
        self.assertEqual(program_fault("1 = f" + "(" * 5000), (1, 7))
        self.assertEqual(program_fault("1 = " + "f(" * 5000), (1, 7))
        many = "1 = f(" + "1, " * 6000
        self.assertEqual(program_fault(many), (1, 7 + 18000))
        whole = program_goes_on(many)
        self.assertEqual(len(read_program(whole).hours()[0][0][2]), 6001)


if __name__ == "__main__":
    unittest.main()
