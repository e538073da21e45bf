"""Sessions: sources that live, with questions that are watched or held."""

from twoslots.deeds import can_take_line, done_to, need_held
from twoslots.errors import BadQuestion, BadSession, NoCount
from twoslots.givens import hours_without
from twoslots.names import is_number_below
from twoslots.questions import State, answered_otherwise, question_of
from twoslots.sources import Source


class Session:
    """The states from the begin on, the deeds that lead from each one to the next, and at which state it is.

    The lists are not changed but put in the place of one another, as trials and copies keep them.
    """

    def __init__(self):
        self._states = [State(Source([]), Source([]), [])]
        self._deeds = []
        self._at = 0

    def now(self):
        return self._state().now_source

    def mark(self):
        return self._state().mark_source

    def watched(self):
        state = self._state()
        return [(question, state.answer(question), held) for question, held in state.asked]

    def do(self, deed):
        before = self._state()
        after, kept = done_to(before, deed)
        need_held(before, after)
        self._states = self._states[:self._at + 1] + [after]
        self._deeds = self._deeds[:self._at] + [kept]
        self._at += 1
        return answered_otherwise(before, after)

    def is_question(self, thing):
        return question_of(self.now(), thing) is not None

    def answer(self, question):
        asked = question_of(self.now(), question)
        if asked is None:
            raise BadQuestion(question)
        return self._state().answer(asked)

    def would(self, deed):
        before = self._state()
        after, _ = done_to(before, deed)
        return answered_otherwise(before, after)

    def can_take(self):
        state = self._state()
        return [at for at in range(len(self.now().lines())) if can_take_line(state, at)]

    def costs(self):
        hours = self._state().answer(("hours",))
        return [(at, hours - hours_without(self.now(), line[1]))
                for at, line in enumerate(self.now().lines()) if line[0] == "tell"]

    def count(self):
        return self._at

    def deeds(self):
        return self._deeds[:self._at]

    def undo(self):
        if self._at == 0:
            return None
        self._at -= 1
        return self._deeds[self._at]

    def again(self):
        if self._at == len(self._deeds):
            return None
        self._at += 1
        return self._deeds[self._at - 1]

    def at(self, number):
        if not is_number_below(number, self._at + 1):
            raise NoCount(number)
        other = Session()
        other._states = self._states[:number + 1]
        other._deeds = self._deeds[:number]
        other._at = number
        return other

    def copy(self):
        other = Session()
        other._states = self._states
        other._deeds = self._deeds
        other._at = self._at
        return other

    def trial(self, work):
        states = self._states
        deeds = self._deeds
        at = self._at
        try:
            return work(self)
        finally:
            self._states = states
            self._deeds = deeds
            self._at = at

    def _state(self):
        return self._states[self._at]

    def __eq__(self, other):
        return isinstance(other, Session) and self._state().is_alike(other._state())


def session_with(now_source, mark_source, asked):
    """A session with just this, no deed done; asked has the pairs (question, whether it is held)."""
    session = Session()
    session._states = [State(now_source, mark_source, asked)]
    return session


def need_session(session):
    if not isinstance(session, Session):
        raise BadSession(session)
