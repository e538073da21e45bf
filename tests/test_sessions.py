"""[88] to [94]: sessions by hand: each deed done and refused, questions, why, ahead, back and on."""

import unittest

from twoslots.errors import (BadDeed, BadLines, BadPlace, BadQuestion, InUse, IsWatched, NoCount, NotWatched,
                             SlotError, WouldChange)
from twoslots.needed import order_of
from twoslots.orders import Order
from twoslots.programs import Program
from twoslots.sessions import Session
from twoslots.sources import Source
from twoslots.sourcetexts import read_source

from tests.planoracles import hours_of_chain, is_chain, is_plan
from tests.samples import OBJECTS, T_LINES, T_TEXT, function_of_somebody

T = read_source(T_TEXT)
SAME = ("same",)
HOURS = ("hours",)


def session_of(lines, *deeds):
    session = Session()
    for at, line in enumerate(lines):
        session.do(("put", at, line))
    for deed in deeds:
        session.do(deed)
    return session


def session_of_t(*deeds):
    return session_of(T_LINES, ("mark",), *deeds)


def all_of(session):
    """All that a session tells, without what it would do."""
    return (session.now().lines(), session.mark().lines(), session.watched(), session.count(), session.deeds())


class Base(unittest.TestCase):
    def refused(self, session, deed, error, **holds):
        """A deed is refused by do and, if it is not for what is held, by would; nothing is changed."""
        ahead = all_of(session)
        asks = [session.do] if error is WouldChange else [session.do, session.would]
        for ask in asks:
            with self.assertRaises(SlotError) as caught:
                ask(deed)
            self.assertIs(type(caught.exception), error, deed)
            for word, thing in holds.items():
                self.assertEqual(getattr(caught.exception, word), thing)
                self.assertIs(type(getattr(caught.exception, word)), type(thing))
        self.assertEqual(all_of(session), ahead)
        return caught.exception


class Example(Base):
    def test_the_example(self):
        session = session_of_t(("hold", SAME), ("hold", ("in", 3)))
        self.assertEqual(session.now(), T)
        self.assertEqual(session.mark(), T)
        self.assertEqual(session.costs(), [(5, 2), (6, 0)])
        self.assertEqual(session.watched(), [(SAME, True, True), (("in", 3), True, True)])
        self.assertEqual(session.do(("put", 2, ("give", "v", ("f", "a", "b")))), [])
        self.assertEqual(session.can_take(), [2])
        self.assertEqual(session.do(("change", 3, ("give", "x", "v"))), [])
        self.assertEqual(session.can_take(), [])

    def test_the_refused_ones(self):
        session = session_of_t(("hold", SAME), ("hold", ("in", 3)), ("put", 2, ("give", "v", ("f", "a", "b"))),
                               ("change", 3, ("give", "x", "v")))
        deed = ("change", 4, ("give", "y", ("g", "x", "a")))
        self.refused(session, deed, WouldChange, question=SAME, why=("path", 0, [0, 1]))
        session.do(("free", SAME))
        self.assertEqual(session.do(deed), [])
        self.assertEqual(session.answer(HOURS), 3)
        self.assertEqual(session.watched(), [(("in", 3), True, True)])
        error = self.refused(session, ("put", 6, ("give", "z", ("h", "z", "z"))), WouldChange, question=("in", 3))
        self.assertEqual([len(block) for block in error.why], [1, 1, 1, 1])


class Deeds(Base):
    def test_a_new_session(self):
        session = Session()
        self.assertEqual(all_of(session), ([], [], [], 0, []))
        self.assertEqual((session.can_take(), session.costs()), ([], []))
        self.assertIsNone(session.undo())
        self.assertIsNone(session.again())

    def test_lines_are_put_taken_changed_turned(self):
        session = Session()
        self.assertEqual(session.do(["put", 0, ["read", "a"]]), [])
        session.do(("put", 0, ("read", "b")))
        session.do(("put", 2, ["give", "x", ["f", "a", ["g", "b"]]]))
        session.do(("put", 3, ("tell", "x")))
        rows = [("read", "b"), ("read", "a"), ("give", "x", ("f", "a", ("g", "b"))), ("tell", "x")]
        self.assertEqual(session.now().lines(), rows)
        session.do(("turn", 0))
        self.assertEqual(session.now().lines(), [rows[1], rows[0]] + rows[2:])
        session.do(("change", 2, ("give", "x", "b")))
        self.assertEqual(session.now().lines(), [rows[1], rows[0], ("give", "x", "b"), rows[3]])
        session.do(["take", 0])
        self.assertEqual(session.now().lines(), [rows[0], ("give", "x", "b"), rows[3]])
        self.assertEqual(session.mark(), Source([]))
        session.do(["mark"])
        session.do(("take", 2))
        self.assertEqual(session.mark().lines(), [rows[0], ("give", "x", "b"), rows[3]])
        self.assertEqual(session.deeds(), [
            ("put", 0, ("read", "a")), ("put", 0, ("read", "b")), ("put", 2, ("give", "x", ("f", "a", ("g", "b")))),
            ("put", 3, ("tell", "x")), ("turn", 0), ("change", 2, ("give", "x", "b")), ("take", 0), ("mark",), ("take", 2)])
        self.assertEqual(session.count(), 9)

    def test_what_has_not_the_form(self):
        session = session_of_t(("watch", SAME))
        wrong = OBJECTS + [(("put",), 0, None), ("put",), ("put", 0), ("put", 0, None, None), ("take",), ("take", 0, 0), ("change", 0), ("turn",),
                           ("turn", 0, 0), ("mark", 0), ("watch",), ("hold", SAME, SAME), ("free",), ("Put", 0, None), (None, 0), ({}, 0),
                           ([], 0), (7,), ("undo",), ("", 0), T, Order(0, []), ("mark", None), {"mark": 1}, "mark", ("marks",)]
        for thing in wrong:
            error = self.refused(session, thing, BadDeed)
            self.assertIs(error.thing, thing)

    def test_places(self):
        session = session_of_t()
        for thing in [-1, 8, None, True, False, "0", [0], (), {}, T, function_of_somebody, 10 ** 8]:
            for deed in (("put", thing, None), ("take", thing), ("change", thing, None), ("turn", thing)):
                self.assertIs(self.refused(session, deed, BadPlace).thing, thing)
        self.refused(session, ("take", 7), BadPlace, thing=7)
        self.refused(session, ("change", 7, T_LINES[0]), BadPlace, thing=7)
        self.refused(session, ("turn", 6), BadPlace, thing=6)
        self.refused(session, ("turn", 7), BadPlace, thing=7)
        session.do(("put", 7, ("read", "c")))
        session.do(("turn", 6))
        empty = Session()
        for deed in (("take", 0), ("change", 0, ("read", "a")), ("turn", 0), ("put", 1, ("read", "a"))):
            self.refused(empty, deed, BadPlace, thing=deed[1])
        self.refused(session_of([("read", "a")]), ("turn", 0), BadPlace, thing=0)

    def test_lines_that_are_none(self):
        session = session_of_t()
        for thing in OBJECTS + [T, ("read", "a"), ("give", "x"), ("tell", "q"), ("give", "q", "q"), ("tell", "read")]:
            self.refused(session, ("put", 2, thing), BadLines, index=2)
            self.refused(session, ("change", 1, thing), BadLines, index=1)
        self.refused(session, ("take", 0), BadLines, index=1)
        self.refused(session, ("take", 2), BadLines, index=2)
        self.refused(session, ("turn", 1), BadLines, index=1)
        self.refused(session, ("turn", 3), BadLines, index=3)
        self.refused(session, ("put", 0, ("read", "b")), BadLines, index=2)
        self.refused(session, ("put", 5, ("tell", "x")), BadLines, index=7)
        self.refused(session, ("change", 0, ("give", "b", ("k",))), BadLines, index=1)

    def test_watch_hold_free(self):
        session = session_of_t()
        self.assertEqual(session.do(("watch", ["in", 2])), [])
        self.assertEqual(session.do(("hold", HOURS)), [])
        self.assertEqual(session.do(("watch", ("told", "x"))), [])
        self.assertEqual(session.watched(), [(("in", 2), False, False), (HOURS, 3, True), (("told", "x"), 1, False)])
        self.refused(session, ("watch", ["in", 2]), IsWatched, question=("in", 2))
        self.refused(session, ("watch", HOURS), IsWatched, question=HOURS)
        self.refused(session, ("hold", ["hours"]), IsWatched, question=HOURS)
        self.refused(session, ("free", ["same"]), NotWatched, question=SAME)
        session.do(("hold", ["in", 2]))
        self.assertEqual(session.watched(), [(("in", 2), False, True), (HOURS, 3, True), (("told", "x"), 1, False)])
        self.refused(session, ("watch", ["in", 2]), IsWatched, question=("in", 2))
        session.do(("free", HOURS))
        session.do(("free", ["told", "x"]))
        self.assertEqual(session.watched(), [(("in", 2), False, True)])
        self.refused(session, ("free", HOURS), NotWatched, question=HOURS)
        session.do(("watch", HOURS))
        self.assertEqual(session.watched(), [(("in", 2), False, True), (HOURS, 3, False)])
        self.assertEqual(session.deeds()[-7:], [("watch", ("in", 2)), ("hold", HOURS), ("watch", ("told", "x")), ("hold", ("in", 2)),
                                                ("free", HOURS), ("free", ("told", "x")), ("watch", HOURS)])

    def test_no_question(self):
        session = session_of_t(("watch", SAME))
        for thing in OBJECTS + [("in", -1), ("in", True), ("in", "1"), ("told", "y"), ("told", "q"), ("told",), ("told", None), ("in",), ("same", 1),
                                ("hours", 0), (None,), ([],), ("told", ["x"]), ("Same",), T, ("in", 1, 1), ({},), ("told", 7), ("tell", "x"), ("x", "x"), ("x", "told"), ("hours", "x"),
                                ("told", "x", "z"), (("told", "x"),), ("tolds", "x"), (3, "in"), ("told", T)]:
            for kind in ("watch", "hold", "free"):
                self.assertIs(self.refused(session, (kind, thing), BadQuestion).thing, thing)
            self.assertIs(session.is_question(thing), False)
            with self.assertRaises(BadQuestion) as caught:
                session.answer(thing)
            self.assertIs(caught.exception.thing, thing)

    def test_what_is_in_use(self):
        session = session_of_t(("hold", ("told", "x")), ("watch", ("told", "z")), ("hold", HOURS))
        self.refused(session, ("take", 5), InUse, question=("told", "z"))
        self.refused(session, ("take", 6), InUse, question=("told", "x"))
        self.refused(session, ("change", 5, ("tell", "y")), InUse, question=("told", "z"))
        session.do(("free", ("told", "z")))
        self.refused(session, ("take", 5), WouldChange, question=HOURS, why=(3, 1))
        session.do(("free", HOURS))
        self.assertEqual(session.do(("take", 5)), [])
        self.refused(session, ("take", 5), InUse, question=("told", "x"))
        both = session_of_t(("watch", ("told", "z")), ("watch", ("told", "x")))
        both.do(("put", 7, ("read", "c")))
        self.refused(both, ("take", 5), InUse, question=("told", "z"))

    def test_the_first_in_use_comes_ahead_of_what_is_held(self):
        session = session_of_t(("hold", SAME), ("watch", ("told", "z")))
        self.refused(session, ("take", 5), InUse, question=("told", "z"))

    def test_the_first_held_one_as_they_came(self):
        deed = ("change", 4, ("give", "z", "x"))
        session = session_of_t(("watch", ("needed",)), ("hold", HOURS), ("hold", SAME), ("hold", ("in", 9)))
        self.refused(session, deed, WouldChange, question=HOURS, why=(3, 1))
        session.do(("free", HOURS))
        self.refused(session, deed, WouldChange, question=SAME, why=("path", 0, []))
        session.do(("hold", ("needed",)))
        self.refused(session, deed, WouldChange, question=("needed",), why=(3, 1))

    def test_errors_in_order(self):
        session = session_of_t(("hold", HOURS))
        self.refused(session, ("put", None, None, None), BadDeed)
        self.refused(session, ("put", 9, None), BadPlace, thing=9)
        self.refused(session, ("put", 0, None), BadLines, index=0)
        self.refused(session, ("watch", None), BadQuestion, thing=None)

    def test_what_do_returns(self):
        session = session_of_t(("watch", ("rest",)), ("watch", ("in", 3)), ("hold", ("in", 9)), ("watch", ("told", "x")),
                               ("watch", ("new",)), ("watch", SAME), ("watch", HOURS), ("watch", ("needed",)))
        told = session.do(("change", 3, ["give", "y", ["g", ["g", "x", "a"], "b"]]))
        self.assertEqual(told, [(("rest",), 0, 3), (("in", 3), True, False), (("new",), 0, 3), (SAME, True, False),
                                (HOURS, 3, 4), (("needed",), 3, 4)])
        self.assertEqual(session.do(("mark",)), [(("rest",), 3, 0), (("new",), 3, 0), (SAME, False, True)])
        self.assertEqual(session.do(("put", 3, ("read", "c"))), [(SAME, True, False)])
        self.assertEqual(session.do(("watch", ("told", "z"))), [])
        self.assertEqual(session.do(("free", HOURS)), [])

    def test_what_is_told_and_passed_is_kept_apart(self):
        expr = ["f", "a", ["k"]]
        line = ["give", "x", expr]
        question = ["in", 3]
        session = session_of([("read", "a")], ["put", 1, line], ["hold", question])
        expr[2].append("a")
        line[1] = "y"
        question[1] = 4
        self.assertEqual(session.now().lines()[1], ("give", "x", ("f", "a", ("k",))))
        self.assertEqual(session.deeds()[1:], [("put", 1, ("give", "x", ("f", "a", ("k",)))), ("hold", ("in", 3))])
        for tell in (session.deeds, session.watched, session.can_take, session.costs):
            told = tell()
            tell().append(7)
            self.assertEqual(tell(), told)


class Questions(Base):
    def test_answers(self):
        session = session_of_t()
        asked = {HOURS: 3, ("in", 2): False, ("in", 3): True, ("in", 0): False, ("in", 999999999): True, ("needed",): 3, SAME: True,
                 ("new",): 0, ("rest",): 0, ("told", "z"): 3, ("told", "x"): 1}
        self.check(session, asked)
        session.do(("change", 3, ("give", "y", ("g", "x", ("f", "b", "a")))))
        session.do(("put", 7, ("tell", "a")))
        self.check(session, {HOURS: 3, ("needed",): 4, SAME: False, ("new",): 3, ("rest",): 3, ("told", "z"): 4, ("told", "x"): 1, ("told", "a"): 0})
        self.check(Session(), {HOURS: 0, ("in", 0): True, ("needed",): 0, SAME: True, ("new",): 0, ("rest",): 0})

    def check(self, session, asked):
        for question, answer in asked.items():
            self.assertIs(session.is_question(question), True)
            self.assertIs(session.is_question(list(question)), True)
            self.assertEqual(session.answer(question), answer)
            self.assertIs(type(session.answer(list(question))), type(answer))

    def test_names_that_are_told_now(self):
        session = session_of([("read", "a"), ("tell", "a")], ("mark",), ("take", 1))
        self.assertIs(session.is_question(("told", "a")), False)
        session.do(("put", 1, ("tell", "a")))
        self.assertIs(session.is_question(("told", "a")), True)


class Why(Base):
    def test_a_chain_of_more_hours(self):
        session = session_of_t(("hold", ("in", 3)))
        error = self.refused(session, ("put", 5, ("give", "z", ("h", ("m", "z"), "z"))), WouldChange, question=("in", 3))
        order = order_of(Source(T_LINES[:5] + [("give", "z", ("h", ("m", "z"), "z"))] + T_LINES[5:]))
        self.assertTrue(is_chain(order, error.why))
        self.assertGreater(hours_of_chain(error.why), 3)

    def test_a_plan_of_so_few_hours(self):
        session = session_of_t(("hold", ("in", 2)))
        error = self.refused(session, ("take", 5), WouldChange, question=("in", 2))
        self.assertTrue(is_plan(Order(1, []), error.why))
        session = session_of(T_LINES[:6], ("hold", ("in", 2)))
        error = self.refused(session, ("change", 4, ("give", "z", ("h", "x", "x"))), WouldChange, question=("in", 2))
        self.assertEqual(error.why, [[0], [1]])

    def test_an_unlike_paper_of_mark_and_now(self):
        session = session_of_t(("hold", SAME))
        self.refused(session, ("change", 2, ("give", "x", ("f", "b", "a"))), WouldChange, question=SAME, why=("path", 0, [0, 0, 0]))
        self.refused(session, ("take", 6), WouldChange, question=SAME, why=("told", 1))
        self.refused(session, ("put", 7, ("read", "c")), WouldChange, question=SAME, why=("reads", "c"))

    def test_pairs_of_answers(self):
        session = session_of_t(("put", 7, ("read", "c")), ("hold", SAME), ("hold", ("in", 3)))
        self.refused(session, ("take", 7), WouldChange, question=SAME, why=(False, True))
        self.refused(session, ("mark",), WouldChange, question=SAME, why=(False, True))
        session = session_of_t(("hold", ("new",)))
        self.refused(session, ("put", 5, ("give", "z", ("h", "z", "z"))), WouldChange, question=("new",), why=(0, 1))
        session = session_of_t(("hold", ("told", "x")), ("hold", ("rest",)))
        self.refused(session, ("put", 3, ("give", "x", ("m", "x"))), WouldChange, question=("told", "x"), why=(1, 2))

    def test_what_is_held_false_may_be_held_again(self):
        session = session_of_t(("hold", ("in", 2)), ("hold", ("new",)))
        self.assertEqual(session.do(("put", 2, ("give", "v", ("f", "a", "b")))), [])


class Ahead(Base):
    def test_would_never_minds_what_is_held(self):
        session = session_of_t(("hold", SAME), ("watch", HOURS), ("hold", ("in", 1)))
        ahead = all_of(session)
        self.assertEqual(session.would(("take", 5)), [(SAME, True, False), (HOURS, 3, 1), (("in", 1), False, True)])
        self.assertEqual(session.would(("put", 0, ["read", "c"])), [(SAME, True, False)])
        self.assertEqual(session.would(("free", ["same"])), [])
        self.assertEqual(session.would(("mark",)), [])
        self.assertEqual(session.would(("watch", ("needed",))), [])
        self.assertEqual(all_of(session), ahead)

    def test_would_does_not_end_what_can_be_done_again(self):
        session = session_of_t()
        session.undo()
        session.would(("take", 6))
        session.can_take()
        session.costs()
        with self.assertRaises(BadDeed):
            session.do(None)
        self.assertEqual(session.again(), ("mark",))

    def test_can_take(self):
        lines = [("read", "a"), ("read", "b"), ("give", "x", ("f", "a")), ("give", "w", ("u", "b")), ("tell", "x"), ("tell", "a")]
        self.assertEqual(session_of(lines).can_take(), [3, 4, 5])
        self.assertEqual(session_of(lines, ("hold", HOURS)).can_take(), [3, 5])
        self.assertEqual(session_of(lines, ("watch", HOURS), ("watch", ("told", "a"))).can_take(), [3, 4])
        self.assertEqual(session_of(lines, ("mark",), ("hold", SAME)).can_take(), [3])
        self.assertEqual(session_of(lines, ("take", 3), ("take", 4)).can_take(), [1, 3])

    def test_costs(self):
        self.assertEqual(session_of_t().costs(), [(5, 2), (6, 0)])
        session = session_of_t(("take", 6))
        self.assertEqual(session.costs(), [(5, session.answer(HOURS))])
        self.assertEqual(session_of(T_LINES[:5]).costs(), [])
        self.assertEqual(session_of([("read", "a"), ("tell", "a")]).costs(), [(1, 0)])


class BackAndOn(Base):
    def test_undo_and_again(self):
        session = session_of_t(("hold", SAME))
        kept = all_of(session)
        self.assertEqual(session.undo(), ("hold", SAME))
        self.assertEqual(session.undo(), ("mark",))
        self.assertEqual(session.undo(), ("put", 6, ("tell", "x")))
        self.assertEqual((session.now().lines(), session.mark().lines(), session.count()), (T_LINES[:6], [], 6))
        self.assertEqual(session.deeds(), [("put", at, line) for at, line in enumerate(T_LINES[:6])])
        self.assertEqual([session.again() for _ in range(4)], [("put", 6, ("tell", "x")), ("mark",), ("hold", SAME), None])
        self.assertEqual(all_of(session), kept)
        for _ in range(9):
            session.undo()
        self.assertIsNone(session.undo())
        self.assertEqual(all_of(session), all_of(Session()))

    def test_nothing_held_bars_them(self):
        session = session_of(T_LINES, ("mark",), ("take", 6), ("put", 6, ("tell", "x")), ("hold", SAME))
        session.undo()
        session.undo()
        session.again()
        other = session_of(T_LINES, ("hold", ("in", 3)), ("free", ("in", 3)), ("put", 5, ("give", "z", ("h", "z", "z"))), ("hold", ("in", 4)))
        for _ in range(4):
            other.undo()
        self.assertEqual(other.watched(), [])
        for _ in range(4):
            other.again()
        self.assertEqual(other.watched(), [(("in", 4), True, True)])

    def test_a_new_deed_ends_what_can_be_done_again(self):
        session = session_of_t(("hold", SAME))
        session.undo()
        session.undo()
        session.do(("watch", HOURS))
        self.assertIsNone(session.again())
        self.assertEqual(session.deeds()[-1], ("watch", HOURS))
        self.assertEqual(session.count(), 8)

    def test_a_refused_deed_does_not(self):
        session = session_of_t(("hold", SAME))
        session.undo()
        for deed in (None, ("take", 9), ("take", 0), ("free", SAME), ("watch", None)):
            with self.assertRaises(SlotError):
                session.do(deed)
        self.assertEqual(session.again(), ("hold", SAME))
        session.do(("put", 2, ("give", "v", "a")))
        session.undo()
        self.refused(session, ("take", 6), WouldChange, question=SAME)
        self.assertEqual(session.again(), ("put", 2, ("give", "v", "a")))

    def test_at(self):
        session = session_of_t(("hold", SAME), ("free", SAME))
        for number in range(session.count() + 1):
            other = session.at(number)
            self.assertEqual(other.count(), number)
            self.assertEqual(other.deeds(), session.deeds()[:number])
            self.assertEqual(other.now().lines(), T_LINES[:number])
            self.assertIsNone(other.again())
            for _ in range(number):
                other.undo()
            self.assertEqual(other, Session())
        self.assertEqual(session.at(8).mark(), T)
        self.assertEqual(session.at(9).watched(), [(SAME, True, True)])
        session.undo()
        for thing in [10, 11, -1, True, None, "0", [0], (), {}, T, function_of_somebody]:
            with self.assertRaises(NoCount) as caught:
                session.at(thing)
            self.assertIs(caught.exception.thing, thing)
        session.at(9).do(("free", SAME))
        self.assertEqual(session.again(), ("free", SAME))

    def test_a_copy_goes_on_by_itself(self):
        session = session_of_t(("hold", SAME), ("watch", HOURS))
        session.undo()
        other = session.copy()
        self.assertEqual(all_of(other), all_of(session))
        self.assertEqual(other, session)
        self.assertEqual(other.again(), ("watch", HOURS))
        self.assertEqual(session.count(), 9)
        other.do(("free", SAME))
        other.do(("take", 6))
        self.assertEqual(session.now(), T)
        self.assertEqual(session.again(), ("watch", HOURS))
        session.undo()
        session.do(("watch", ("new",)))
        self.assertEqual(other.deeds()[8:], [("hold", SAME), ("watch", HOURS), ("free", SAME), ("take", 6)])
        self.assertEqual(session.deeds()[8:], [("hold", SAME), ("watch", ("new",))])

    def test_trial(self):
        session = session_of_t(("watch", HOURS), ("hold", SAME))
        session.undo()
        kept = all_of(session)
        asked = []

        def work(*things, **more):
            asked.append((things, more))
            self.assertIs(things[0], session)
            session.do(("take", 5))
            session.do(("mark",))
            return [session.answer(HOURS)]
        told = session.trial(work)
        self.assertEqual(told, [1])
        self.assertEqual(asked, [((session,), {})])
        self.assertEqual(all_of(session), kept)
        self.assertEqual(session.again(), ("hold", SAME))
        self.assertIsNone(session.trial(lambda one: None))

    def test_trials_within_one_another(self):
        session = session_of_t()
        seen = []

        def deeper(one):
            ahead = all_of(one)
            one.do(("put", 0, ("read", f"q{one.count()}")))
            if one.count() < 14:
                one.trial(deeper)
            seen.append(one.count())
            self.assertEqual(one.undo()[0], "put")
            self.assertEqual(all_of(one), ahead)
            one.undo()
            one.undo()
        kept = all_of(session)
        session.trial(deeper)
        self.assertEqual(seen, [14, 13, 12, 11, 10, 9])
        self.assertEqual(all_of(session), kept)

    def test_errors_within_trials(self):
        session = session_of_t(("hold", SAME))
        kept = all_of(session)
        error = KeyError("no")

        def inner(one):
            one.do(("free", SAME))
            one.undo()
            one.undo()
            raise error

        def outer(one):
            one.do(("put", 2, ("give", "v", "a")))
            with self.assertRaises(KeyError) as caught:
                one.trial(inner)
            self.assertIs(caught.exception, error)
            self.assertEqual(one.deeds()[-1], ("put", 2, ("give", "v", "a")))
            one.do(("take", 0))
        with self.assertRaises(BadLines):
            session.trial(outer)
        self.assertEqual(all_of(session), kept)
        with self.assertRaises(WouldChange):
            session.trial(lambda one: one.do(("take", 6)))
        self.assertEqual(all_of(session), kept)

    def test_undo_beyond_the_begin_of_a_trial(self):
        session = session_of_t()

        def work(one):
            for _ in range(5):
                one.undo()
            one.do(("put", 0, ("read", "q")))
            return one.copy()
        kept = all_of(session)
        other = session.trial(work)
        self.assertEqual(all_of(session), kept)
        self.assertEqual(other.now().lines(), [("read", "q")] + T_LINES[:3])


class Equal(Base):
    def test_by_now_mark_and_what_is_watched_and_held(self):
        session = session_of_t(("watch", HOURS), ("hold", SAME))
        other = session_of(T_LINES, ("hold", HOURS), ("mark",), ("free", HOURS), ("watch", HOURS), ("watch", SAME), ("hold", SAME))
        self.assertEqual(session, other)
        self.assertFalse(session != other)
        other.do(("put", 5, ("give", "v", "a")))
        self.assertNotEqual(session, other)
        other.undo()
        self.assertEqual(session, other)
        self.assertNotEqual(session, session_of_t(("hold", SAME), ("watch", HOURS)))
        self.assertNotEqual(session, session_of_t(("hold", HOURS), ("hold", SAME)))
        self.assertNotEqual(session, session_of_t(("watch", HOURS)))
        self.assertNotEqual(session_of_t(), session_of(T_LINES))
        self.assertEqual(Session(), Session())
        self.assertEqual(session.at(0), Session())

    def test_equal_nothing_else(self):
        for thing in OBJECTS + [T, Source([]), Program([], [], []), Order(0, [])]:
            self.assertFalse(Session() == thing)
            self.assertTrue(Session() != thing)


if __name__ == "__main__":
    unittest.main()
