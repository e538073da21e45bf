"""[95]: texts of sessions, there and back, and their first wrong signs against a reader of the tests' own."""

import functools
import random
import re
import unittest

from twoslots.errors import BadSession, BadText
from twoslots.orders import Order
from twoslots.sessions import Session
from twoslots.sessiontexts import read_session, write_session
from twoslots.sources import Source
from twoslots.sourcetexts import read_source, source_text

from tests.oracles import is_source_text, source_ends
from tests.samples import NO_STRINGS, OBJECTS, T_TEXT, random_sources

T = read_source(T_TEXT)
PLAIN = ["hours", "needed", "same", "new", "rest"]
SMALL = "mark read a\nline read a\nline x = f(a)\nline tell x\nwatch same\nhold in 3\nwatch told x\n"


def lines_behind_word(text, word):
    return "".join(line[len(word):] + "\n" for line in text.split("\n")[:-1] if line.startswith(word))


def asked_in(text):
    return [line.split(" ", 1)[1] for line in text.split("\n")[:-1] if line.startswith(("watch ", "hold "))]


@functools.lru_cache(maxsize=20000)
def is_session_text(text):
    """Whether a text is a session's: whole lines in their three parts, each question once and a question."""
    if text and not text.endswith("\n"):
        return False
    words = [line.split(" ", 1)[0] + " " for line in text.split("\n")[:-1]]
    order = {"mark ": 0, "line ": 1, "watch ": 2, "hold ": 2}
    if any(word not in order for word in words) or [order[word] for word in words] != sorted(order[word] for word in words):
        return False
    if any(" " not in line for line in text.split("\n")[:-1]):
        return False
    now = lines_behind_word(text, "line ")
    if not is_source_text(lines_behind_word(text, "mark ")) or not is_source_text(now):
        return False
    asked = asked_in(text)
    told = ["told " + line[5:] for line in now.split("\n") if line.startswith("tell ")]
    right = all(one in PLAIN or one in told or re.fullmatch("in (0|[1-9][0-9]*)", one) for one in asked)
    return right and len(set(asked)) == len(asked)


def session_ends(text):
    """Ends of which one makes a text a session's if any end does."""
    last = text.split("\n")[-1]
    yield ""
    for word in ("mark ", "line "):
        if last.startswith(word):
            yield from source_ends(lines_behind_word(text[:len(text) - len(last)], word) + last[len(word):])
        elif word.startswith(last):
            yield word[len(last):] + "a = a()\n"
    now = lines_behind_word(text, "line ")
    questions = PLAIN + ["told " + line[5:] for line in now.split("\n") if line.startswith("tell ")]
    number = re.fullmatch("(?:watch|hold) in ([0-9]*)", last)
    begun = number[1] if number else ""
    questions += [f"in {begun}{more}" for more in ["", "7", "77", "777"]]
    for kind in ("watch ", "hold "):
        for question in questions:
            if (kind + question).startswith(last):
                yield (kind + question)[len(last):] + "\n"


def is_beginning(text):
    return any(is_session_text(text + end) for end in session_ends(text))


def fault_by_hand(text):
    if is_session_text(text):
        return None
    # What is no beginning has no beginning behind it.
    right, wrong = 0, len(text) + 1
    while wrong - right > 1:
        middle = (right + wrong) // 2
        if is_beginning(text[:middle]):
            right = middle
        else:
            wrong = middle
    begun = text[:right].split("\n")
    return (len(begun), len(begun[-1]) + 1)


def session_with_all(source, mark, asked):
    """A session with these, come to by deeds; asked has the pairs (question, whether it is held)."""
    session = Session()
    for at, line in enumerate(mark.lines()):
        session.do(("put", at, line))
    session.do(("mark",))
    for at in range(len(mark.lines()) - 1, -1, -1):
        session.do(("take", at))
    for at, line in enumerate(source.lines()):
        session.do(("put", at, line))
    for question, held in asked:
        session.do(("hold" if held else "watch", question))
    return session


def random_session(rng, sources):
    source, mark = rng.choice(sources), rng.choice(sources)
    questions = [(word,) for word in PLAIN] + [("told", name) for name in source.tells()]
    questions += [("in", rng.choice([0, 1, 7, 10, 123456789, 999999999])), ("in", 30), ("in", 3)]
    some = rng.sample(questions, rng.randint(0, len(questions)))
    return session_with_all(source, mark, [(question, rng.random() < 0.5) for question in some])


def text_by_hand(session):
    rows = ["mark " + line for line in source_text(session.mark()).split("\n")[:-1]]
    rows += ["line " + line for line in source_text(session.now()).split("\n")[:-1]]
    rows += [" ".join(["hold" if held else "watch"] + [str(part) for part in question]) for question, _, held in session.watched()]
    return "".join(row + "\n" for row in rows)


class ThereAndBack(unittest.TestCase):
    def check(self, session):
        text = write_session(session)
        self.assertEqual(text, text_by_hand(session))
        self.assertIsNone(fault_by_hand(text))
        back = read_session(text)
        self.assertEqual(back, session)
        self.assertEqual(back.watched(), session.watched())
        self.assertEqual((back.count(), back.deeds(), back.undo(), back.again()), (0, [], None, None))
        self.assertEqual(write_session(back), text)
        return text

    def test_by_hand(self):
        session = session_with_all(T, T, [(("same",), True), (("in", 3), True), (("told", "x"), False), (("hours",), False)])
        rows = T_TEXT.split("\n")[:-1]
        text = "".join(f"mark {row}\n" for row in rows) + "".join(f"line {row}\n" for row in rows)
        self.assertEqual(self.check(session), text + "hold same\nhold in 3\nwatch told x\nwatch hours\n")
        self.assertEqual(self.check(Session()), "")
        self.assertEqual(self.check(session.at(3)), "line read a\nline read b\nline x = f(a, b)\n")

    def test_random_sessions(self):
        rng = random.Random(781)
        sources = random_sources(782, 30)
        for _ in range(120):
            self.check(random_session(rng, sources))

    def test_a_read_session_goes_on(self):
        session = read_session(SMALL)
        self.assertEqual(session.watched(), [(("same",), False, False), (("in", 3), True, True), (("told", "x"), 1, False)])
        self.assertEqual(session.mark(), Source([("read", "a")]))
        self.assertEqual(session.do(("put", 1, ("read", "b"))), [])
        self.assertEqual(session.undo(), ("put", 1, ("read", "b")))
        self.assertIsNone(session.undo())
        self.assertEqual(session.at(0), session)

    def test_told_ones_are_new(self):
        first = read_session(SMALL)
        first.do(("free", ("same",)))
        self.assertEqual(len(read_session(SMALL).watched()), 3)

    def test_no_session(self):
        for thing in OBJECTS + [T, Order(0, [])]:
            with self.assertRaises(BadSession) as caught:
                write_session(thing)
            self.assertIs(caught.exception.thing, thing)


class FirstWrongSigns(unittest.TestCase):
    def check(self, text):
        wanted = fault_by_hand(text)
        if wanted is None:
            self.assertEqual(write_session(read_session(text)), text)
            return None
        with self.assertRaises(BadText) as caught:
            read_session(text)
        self.assertEqual((caught.exception.line, caught.exception.sign), wanted, text)
        return wanted

    def test_the_examples(self):
        self.assertEqual(self.check("watch same\nhold same\n"), (2, 6))
        self.assertEqual(self.check("hold in 3\nhold in 3\n"), (2, 10))
        self.assertEqual(self.check("hold in 3\nhold in 30\n"), None)
        self.assertEqual(self.check("watch in 3\nhold in 3\n"), (2, 10))

    def test_by_hand(self):
        for text, place in [("mark", (1, 5)), ("mark \n", (1, 6)), ("mark tell a\n", (1, 10)), ("line x = f(b)\n", (1, 13)), ("x", (1, 1)),
                            ("line read a\nmark read a\n", (2, 1)), ("watch hours\nline read a\n", (2, 1)), ("watch hours\nmark read a\n", (2, 1)),
                            ("watch told a\n", (1, 7)), ("line read a\nwatch told a\n", (2, 7)), ("line read a\nline tell a\nwatch told b\n", (3, 12)),
                            ("mark read a\nmark tell a\nwatch told a\n", (3, 7)), ("watch in 01\n", (1, 11)), ("watch in 0\nhold in 0\n", (2, 9)),
                            ("watch in -1\n", (1, 10)), ("watch in\n", (1, 9)), ("watch in \n", (1, 10)), ("watch hour\n", (1, 11)),
                            ("watch hourss\n", (1, 12)), ("watch  same\n", (1, 7)), ("watch same \n", (1, 11)), ("\n", (1, 1)), ("watch ne\n", (1, 9)),
                            ("watch n\n", (1, 8)), ("watch new\nhold n", (2, 7)), ("watch new\nhold needed\n", None), ("hold new\nhold new\n", (2, 8)),
                            ("hold same", (1, 10)), ("watch in 3", (1, 11)), ("mark read a\nline read a", (2, 12)), ("hold\n", (1, 5)), ("Watch same\n", (1, 1)),
                            ("mark read a\nmark read a\n", (2, 12)), ("line a = k()\nmark a = k()\n", (2, 1)), ("watch told", (1, 7)), ("", None),
                            ("line a = k()\nline tell a\nwatch told a\nhold told a\n", (4, 6)), ("free same\n", (1, 1)), ("watch in 1 \n", (1, 11)),
                            ("line a = k()\nline tell a\nline ab = k()\nline tell ab\nwatch told ab\nhold told ab\n", (6, 12)),
                            ("line a = k()\nline tell a\nline ab = k()\nline tell ab\nwatch told a\nhold told ab\n", None),
                            ("line a = k()\nline tell a\nline ab = k()\nline tell ab\nwatch told a\nhold told a\n", (6, 12))]:
            self.assertEqual(fault_by_hand(text), place, text)
            self.check(text)

    def test_all_near(self):
        for text in (SMALL, "mark read a\nmark tell a\nline a = f(k())\nhold in 10\nwatch in 1\nhold hours\nhold rest\nwatch needed\n", "watch in 0\n"):
            for at in range(len(text) + 1):
                self.check(text[:at])
                self.check(text[:at] + text[at + 1:])
                for sign in "aw0 \nh3":
                    self.check(text[:at] + sign + text[at:])
                    self.check(text[:at] + sign + text[at + 1:])

    def test_lines_exchanged_doubled_and_gone(self):
        rng = random.Random(783)
        sources = random_sources(784, 20, lines=6)
        for _ in range(150):
            rows = write_session(random_session(rng, sources)).split("\n")[:-1]
            if rows:
                at, spot = rng.randrange(len(rows)), rng.randrange(len(rows))
                kind = rng.choice(["exchange", "double", "gone"])
                if kind == "exchange":
                    rows[at], rows[spot] = rows[spot], rows[at]
                elif kind == "double":
                    rows.insert(spot, rows[at])
                else:
                    del rows[at]
            self.check("".join(row + "\n" for row in rows))

    def test_no_string(self):
        for thing in NO_STRINGS + [T, Session()]:
            with self.assertRaises(BadText) as caught:
                read_session(thing)
            self.assertEqual((caught.exception.line, caught.exception.sign), (0, 0))

    def test_numbers_of_nine_figures(self):
        self.check("watch in 999999999\nhold in 99999999\nhold in 100000000\n")
        self.check("watch in 999999999\nhold in 999999999\n")
        self.check("watch in 999999999\nhold in 099999999\n")


if __name__ == "__main__":
    unittest.main()
