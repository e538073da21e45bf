"""Another session, told by the words of [88] to [94]: lists that are copied whole, and answers by trying all plans."""

import re

from twoslots.sources import Source

from tests.hopeoracles import hours_by, hours_of_terms, needed_by, needs, read_terms
from tests.samples import written


def expr_by_hand(expr, known):
    if isinstance(expr, str):
        return expr if expr in known else None
    if not isinstance(expr, (list, tuple)) or not expr or not is_word(expr[0]):
        return None
    parts = tuple(expr_by_hand(part, known) for part in expr[1:])
    return None if None in parts else (expr[0],) + parts


def is_word(thing):
    return isinstance(thing, str) and re.fullmatch("[a-z][a-z0-9]{0,7}", thing) is not None and thing not in ("read", "tell")


def lines_by_hand(lines):
    """The pair of the lines as tuples, as far as they are a source's, and the index of the first that is none."""
    known, told, done = set(), set(), []
    for index, line in enumerate(lines):
        right = None
        if isinstance(line, (list, tuple)) and len(line) >= 2 and is_word(line[1]):
            kind, name = line[0], line[1]
            if kind == "read" and len(line) == 2 and name not in known:
                right = ("read", name)
            elif kind == "tell" and len(line) == 2 and name in known - told:
                right = ("tell", name)
            elif kind == "give" and len(line) == 3 and expr_by_hand(line[2], known) is not None:
                right = ("give", name, expr_by_hand(line[2], known))
        if right is None:
            return done, index
        (told if right[0] == "tell" else known).add(right[1])
        done.append(right)
    return done, None


def question_by_hand(lines, thing):
    if not isinstance(thing, (list, tuple)):
        return None
    if len(thing) == 1 and isinstance(thing[0], str) and thing[0] in ("hours", "needed", "same", "new", "rest"):
        return tuple(thing)
    if len(thing) == 2 and thing[0] == "in" and isinstance(thing[1], int) and not isinstance(thing[1], bool) and thing[1] >= 0:
        return tuple(thing)
    if len(thing) == 2 and thing[0] == "told" and ("tell", thing[1]) in lines:
        return tuple(thing)
    return None


def answer_by_hand(lines, mark, question):
    now, kept = Source(lines), Source(mark)
    if question[0] == "hours":
        return hours_by(now)
    if question[0] == "in":
        return hours_by(now) <= question[1]
    if question[0] == "needed":
        return len(needed_by(now))
    if question[0] == "same":
        return sorted(now.reads()) == sorted(kept.reads()) and written(now)[2] == written(kept)[2]
    if question[0] == "new":
        return len(needed_by(now) - needed_by(kept))
    if question[0] == "rest":
        return hours_of_terms(sorted(needed_by(now) - needed_by(kept), key=str))
    return len(needs([dict(written(now)[2])[question[1]]], read_terms(now)))


class Refused(Exception):
    """A deed is refused: the name of the error, and what it holds."""

    def __init__(self, name, *things):
        super().__init__(name)
        self.told = (name,) + things


class Model:
    def __init__(self, lines=(), mark=(), asked=()):
        self.state = (list(lines), list(mark), list(asked))
        self.past = []
        self.ahead = []

    def answers(self, state=None):
        lines, mark, asked = state or self.state
        return {question: answer_by_hand(lines, mark, question) for question, _ in asked}

    def watched(self):
        told = self.answers()
        return [(question, told[question], held) for question, held in self.state[2]]

    def behind(self, deed):
        """The state behind a deed, and the deed with tuples; raises Refused, but never for what is held."""
        lines, mark, asked = self.state
        sizes = {"put": 3, "take": 2, "change": 3, "turn": 2, "mark": 1, "watch": 2, "hold": 2, "free": 2}
        if not isinstance(deed, (list, tuple)) or not deed or not isinstance(deed[0], str) or sizes.get(deed[0]) != len(deed):
            raise Refused("BadDeed", deed)
        if deed[0] == "mark":
            return (lines, lines, asked), ("mark",)
        if deed[0] in ("watch", "hold", "free"):
            question = question_by_hand(lines, deed[1])
            if question is None:
                raise Refused("BadQuestion", deed[1])
            return (lines, mark, self.asked_behind(deed[0], question)), (deed[0], question)
        return self.lines_behind(deed)

    def asked_behind(self, kind, question):
        asked = list(self.state[2])
        words = [one for one, _ in asked]
        if kind == "free":
            if question not in words:
                raise Refused("NotWatched", question)
            del asked[words.index(question)]
        elif question not in words:
            asked.append((question, kind == "hold"))
        elif kind == "watch" or asked[words.index(question)][1]:
            raise Refused("IsWatched", question)
        else:
            asked[words.index(question)] = (question, True)
        return asked

    def lines_behind(self, deed):
        lines, mark, asked = self.state
        last = {"put": len(lines), "turn": len(lines) - 2}.get(deed[0], len(lines) - 1)
        at = deed[1]
        if not isinstance(at, int) or isinstance(at, bool) or not 0 <= at <= last:
            raise Refused("BadPlace", at)
        new = list(lines)
        if deed[0] == "put":
            new.insert(at, deed[2])
        elif deed[0] == "take":
            del new[at]
        elif deed[0] == "change":
            new[at] = deed[2]
        else:
            new[at], new[at + 1] = new[at + 1], new[at]
        done, wrong = lines_by_hand(new)
        if wrong is not None:
            raise Refused("BadLines", wrong)
        for question, _ in asked:
            if question_by_hand(done, question) is None:
                raise Refused("InUse", question)
        kept = deed[:2] if deed[0] in ("take", "turn") else (deed[0], at, done[at])
        return (done, mark, asked), tuple(kept)

    def changes(self, after):
        """The triples (question, ahead, behind) of what is answered otherwise."""
        old, new = self.answers(), self.answers(after)
        return [(question, old[question], new[question]) for question, _ in after[2] if question in old and old[question] != new[question]]

    def would(self, deed):
        return self.changes(self.behind(deed)[0])

    def do(self, deed):
        after, kept = self.behind(deed)
        changes = self.changes(after)
        for question, ahead, behind in changes:
            if (question, True) in self.state[2]:
                raise Refused("WouldChange", question, ahead, behind, after)
        self.past.append((self.state, kept))
        self.state = after
        self.ahead = []
        return changes

    def undo(self):
        if not self.past:
            return None
        state, deed = self.past.pop()
        self.ahead.append((self.state, deed))
        self.state = state
        return deed

    def again(self):
        if not self.ahead:
            return None
        state, deed = self.ahead.pop()
        self.past.append((self.state, deed))
        self.state = state
        return deed

    def can_take(self):
        found = []
        for at in range(len(self.state[0])):
            try:
                changes = self.would(("take", at))
            except Refused:
                continue
            if not any((question, True) in self.state[2] for question, _, _ in changes):
                found.append(at)
        return found

    def costs(self):
        lines = self.state[0]
        hours = hours_by(Source(lines))
        return [(at, hours - hours_by(Source(lines[:at] + lines[at + 1:]))) for at, line in enumerate(lines) if line[0] == "tell"]

    def copy(self):
        other = Model()
        other.state, other.past, other.ahead = self.state, list(self.past), list(self.ahead)
        return other
