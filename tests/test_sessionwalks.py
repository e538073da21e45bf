"""[88] to [94]: sessions walked at random beside another session, told by the words of the points."""

import random
import unittest

from twoslots import errors
from twoslots.errors import SlotError, WouldChange
from twoslots.needed import order_of
from twoslots.sameness import is_unlike_paper
from twoslots.sessions import Session
from twoslots.sources import Source

from tests.hopeoracles import rich_sources
from tests.planoracles import hours_of_chain, is_chain, is_plan
from tests.samples import random_expr
from tests.sessionoracles import Model, Refused

OPERATIONS = [("f", 1), ("g", 2), ("k", 0)]


def some_name(rng):
    return rng.choice("abcd")


def some_line(rng):
    kind = rng.choice(["read", "give", "give", "tell", "tell"])
    if kind == "give":
        return ("give", some_name(rng), random_expr(rng, list("abcd")[:rng.randint(1, 4)], 1, OPERATIONS))
    return rng.choice([tuple, list])((kind, some_name(rng)))


def some_question(rng):
    return rng.choice([("hours",), ("needed",), ("same",), ["same"], ("new",), ("rest",), ("in", rng.randint(0, 3)), ["in", rng.randint(0, 3)],
                       ("told", some_name(rng)), ("told", some_name(rng)), ("in", -1), None])


def some_deed(rng, many):
    kind = rng.choice(["put", "put", "put", "take", "change", "change", "turn", "mark", "watch", "watch", "hold", "hold", "free"])
    at = rng.choice([-1, many + 1, many, many - 1] + list(range(many + 1)) * 2)
    if kind in ("put", "change"):
        return (kind, at, some_line(rng) if rng.random() < 0.95 else None)
    if kind in ("take", "turn"):
        return [kind, at]
    return (kind,) if kind == "mark" else (kind, some_question(rng))


class Walks(unittest.TestCase):
    def check_all(self, session, model):
        lines, mark, _ = model.state
        self.assertEqual((session.now().lines(), session.mark().lines()), (lines, mark))
        self.assertEqual(session.watched(), model.watched())
        self.assertEqual(session.deeds(), [deed for _, deed in model.past])
        self.assertEqual(session.count(), len(model.past))

    def check_why(self, question, ahead, behind, after, why):
        order = order_of(Source(after[0]))
        if question[0] == "in" and ahead:
            self.assertTrue(is_chain(order, why))
            self.assertGreater(hours_of_chain(why), question[1])
        elif question[0] == "in":
            self.assertTrue(is_plan(order, why))
            self.assertLessEqual(len(why), question[1])
        elif question == ("same",) and ahead:
            self.assertTrue(is_unlike_paper(Source(after[1]), Source(after[0]), why))
        else:
            self.assertEqual(why, (ahead, behind))

    def ask(self, call, deed):
        """What a call tells of a deed, or the error that it raises as Refused is told."""
        try:
            return call(deed)
        except SlotError as error:
            words = {"BadLines": ["index"], "InUse": ["question"], "IsWatched": ["question"], "NotWatched": ["question"],
                     "WouldChange": ["question", "why"]}
            name = type(error).__name__
            return (name,) + tuple(getattr(error, word) for word in words.get(name, ["thing"]))

    def check_deed(self, session, model, deed):
        """A deed is answered alike; tells by what name it was refused, None if it was done."""
        try:
            wanted = model.would(deed)
        except Refused as refused:
            wanted = refused.told
        self.assertEqual(self.ask(session.would, deed), wanted, deed)
        try:
            wanted = model.do(deed)
        except Refused as refused:
            told = self.ask(session.do, deed)
            if refused.told[0] == "WouldChange":
                self.assertEqual(told[:2], refused.told[:2])
                self.check_why(*refused.told[1:], told[2])
                return "WouldChange"
            self.assertEqual(told, refused.told, deed)
            return refused.told[0]
        self.assertEqual(self.ask(session.do, deed), wanted, deed)
        return None

    def walk(self, rng, session, model, steps, refused):
        for _ in range(steps):
            word = rng.random()
            if word < 0.08:
                self.assertEqual(session.undo(), model.undo())
            elif word < 0.14:
                self.assertEqual(session.again(), model.again())
            elif word < 0.17:
                session, model = session.copy(), model.copy()
            elif word < 0.19:
                number = rng.randint(0, len(model.past))
                other = model.copy()
                for _ in range(len(model.past) - number):
                    other.undo()
                other.ahead = []
                self.check_all(session.at(number), other)
                self.assertIsNone(session.at(number).again())
            elif word < 0.22:
                inner = model.copy()
                session.trial(lambda one, inner=inner: self.walk(rng, one, inner, 4, refused))
            else:
                name = self.check_deed(session, model, some_deed(rng, len(model.state[0])))
                refused[name] = refused.get(name, 0) + 1
            self.check_all(session, model)
            if rng.random() < 0.1:
                self.assertEqual(session.can_take(), model.can_take())
                self.assertEqual(session.costs(), model.costs())

    def begun(self, source):
        session, model = Session(), Model()
        for at, line in enumerate(source.lines()):
            session.do(("put", at, line))
            model.do(("put", at, line))
        return session, model

    def test_walks(self):
        rng = random.Random(771)
        refused = {}
        for source in rich_sources(772, 120, least=1, most=6, lines=9):
            self.walk(rng, *self.begun(source), 40, refused)
        for _ in range(20):
            self.walk(rng, Session(), Model(), 40, refused)
        for name in [None, "BadPlace", "BadLines", "BadQuestion", "IsWatched", "NotWatched", "InUse", "WouldChange"]:
            self.assertGreater(refused.get(name, 0), 10, name)

    def test_what_is_held_true_stays(self):
        rng = random.Random(773)
        done = 0
        for source in rich_sources(774, 40, least=2, most=6, lines=9):
            session, _ = self.begun(source)
            hours = session.answer(("hours",))
            for deed in (("mark",), ("hold", ("same",)), ("hold", ("in", hours))):
                session.do(deed)
            for _ in range(40):
                deed = some_deed(rng, len(session.now().lines()))
                if deed[0] not in ("free", "mark"):
                    try:
                        session.do(deed)
                        done += deed[0] in ("put", "take", "change", "turn")
                    except SlotError:
                        pass
                self.assertEqual(session.answer(("same",)), True)
                self.assertLessEqual(session.answer(("hours",)), hours)
        self.assertGreater(done, 50)

    def test_equal_just_by_now(self):
        rng = random.Random(775)
        pairs = [self.begun(source) for source in rich_sources(776, 6, least=1, most=4, lines=6)]
        for session, model in pairs:
            self.walk(rng, session, model, 10, {})
        found = [session.at(number) for session, _ in pairs for number in range(session.count() + 1)]
        for one in found:
            for other in found:
                alike = all(getattr(one, word)() == getattr(other, word)() for word in ("now", "mark", "watched"))
                self.assertIs(one == other, alike)

    def test_the_same_why_again(self):
        rng = random.Random(777)
        for source in rich_sources(778, 20, least=2, most=6, lines=9):
            session, _ = self.begun(source)
            session.do(("hold", ("in", session.answer(("hours",)))))
            other = self.begun(Source([list(line) for line in source.lines()]))[0]
            other.do(["hold", ["in", session.answer(("hours",))]])
            for _ in range(20):
                deed = some_deed(rng, len(source.lines()))
                whys = []
                for one in (session, other):
                    try:
                        one.copy().do(deed)
                    except WouldChange as error:
                        whys.append(error.why)
                    except SlotError:
                        pass
                self.assertEqual(whys[:1], whys[1:])

    def test_all_errors_of_sessions_are_the_packages(self):
        for name in ["BadDeed", "BadPlace", "BadLines", "BadQuestion", "IsWatched", "NotWatched", "InUse", "WouldChange"]:
            self.assertTrue(issubclass(getattr(errors, name), SlotError))


if __name__ == "__main__":
    unittest.main()
