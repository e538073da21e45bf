"""Questions of sessions: what is one, what is answered, and why an answer would change."""

from twoslots.chains import chain_against
from twoslots.changing import change_hours, new_terms
from twoslots.names import is_list, is_number
from twoslots.needed import fewest_makings, order_of
from twoslots.plans import fewest_hours, plan_within
from twoslots.sameness import mean_same, unlike_paper
from twoslots.worked import is_read, marks_under

# The questions that have no second part.
PLAIN = ("hours", "needed", "same", "new", "rest")


def question_of(source, thing):
    """The question, as a tuple, that any object is of a source, None if it is none."""
    if not is_list(thing):
        return None
    if len(thing) == 1 and thing[0] in PLAIN:
        return (thing[0],)
    if len(thing) != 2:
        return None
    if thing[0] == "in" and is_number(thing[1]):
        return ("in", thing[1])
    if thing[0] == "told" and thing[1] in source.tells():
        return ("told", thing[1])
    return None


class State:
    """What a session is behind some deeds: the source, the mark, and the pairs (question, whether it is held).

    It is not changed, but for answers that are kept once they are worked out.
    """

    def __init__(self, now_source, mark_source, asked):
        self.now_source = now_source
        self.mark_source = mark_source
        self.asked = asked
        self._answers = {}

    def with_source(self, source):
        return State(source, self.mark_source, self.asked)

    def with_mark(self):
        return State(self.now_source, self.now_source, self.asked)

    def with_asked(self, asked):
        other = State(self.now_source, self.mark_source, asked)
        other._answers = self._answers
        return other

    def is_alike(self, other):
        return (self.now_source == other.now_source and self.mark_source == other.mark_source
                and self.asked == other.asked)

    def answer(self, question):
        if question not in self._answers:
            self._answers[question] = answer_of(self.now_source, self.mark_source, question)
        return self._answers[question]


def answer_of(now, mark, question):
    kind = question[0]
    if kind == "hours":
        return fewest_hours(order_of(now))
    if kind == "in":
        return fewest_hours(order_of(now)) <= question[1]
    if kind == "needed":
        return fewest_makings(now)
    if kind == "same":
        return mean_same(now, mark)
    if kind == "new":
        return len(new_terms(mark, now))
    if kind == "rest":
        return change_hours(mark, now)
    return many_wanted(now, question[1])


def many_wanted(source, name):
    """How many needed terms a told name wants."""
    rows = source.worked().rows
    marks = marks_under(rows, [number for told, number in source.worked().told if told == name], {})
    return len([number for number, row in enumerate(rows) if marks[number] and not is_read(row)])


def answered_otherwise(before, after):
    """The triples (question, ahead, behind) of what is watched in both states and answered otherwise."""
    found = []
    for question, _ in after.asked:
        ahead = before.answer(question)
        behind = after.answer(question)
        if ahead != behind:
            found.append((question, ahead, behind))
    return found


def why_changed(after, question, ahead, behind):
    """The paper that shows why a held question would be answered otherwise."""
    if question[0] == "in" and ahead:
        return chain_against(order_of(after.now_source), question[1])
    if question[0] == "in":
        return plan_within(order_of(after.now_source), question[1])
    if question[0] == "same" and ahead:
        return unlike_paper(after.mark_source, after.now_source)
    return (ahead, behind)
