"""Deeds of sessions: what is one, and what a session is behind it."""

from twoslots.errors import BadDeed, BadLines, BadPlace, BadQuestion, InUse, IsWatched, NotWatched, WouldChange
from twoslots.names import is_list, is_number_below
from twoslots.questions import answered_otherwise, question_of, why_changed
from twoslots.sources import Source

# From the first part of each deed to how many parts it has.
FORMS = {"put": 3, "take": 2, "change": 3, "turn": 2, "mark": 1, "watch": 2, "hold": 2, "free": 2}


def need_deed(thing):
    if not is_list(thing) or len(thing) == 0 or not isinstance(thing[0], str):
        raise BadDeed(thing)
    if FORMS.get(thing[0]) != len(thing):
        raise BadDeed(thing)


def done_to(state, deed):
    """The pair of the state behind a deed and the deed with tuples throughout; what is held may change."""
    need_deed(deed)
    if deed[0] == "mark":
        return state.with_mark(), ("mark",)
    if deed[0] in ("watch", "hold", "free"):
        question = question_of(state.now_source, deed[1])
        if question is None:
            raise BadQuestion(deed[1])
        return state.with_asked(asked_behind(state.asked, deed[0], question)), (deed[0], question)
    source = Source(lines_behind(state.now_source.lines(), deed))
    after = state.with_source(source)
    need_questions(after)
    if deed[0] in ("take", "turn"):
        return after, (deed[0], deed[1])
    return after, (deed[0], deed[1], source.lines()[deed[1]])


def lines_behind(lines, deed):
    """The list of lines behind a deed, the last one of which may be any object."""
    at = deed[1]
    need_place(deed[0], at, len(lines))
    if deed[0] == "put":
        return lines[:at] + [deed[2]] + lines[at:]
    if deed[0] == "take":
        return lines[:at] + lines[at + 1:]
    if deed[0] == "change":
        return lines[:at] + [deed[2]] + lines[at + 1:]
    return lines[:at] + [lines[at + 1], lines[at]] + lines[at + 2:]


def need_place(kind, at, many):
    """A line can be put behind the last one of so many, and the last one is not turned."""
    more = {"put": 1, "turn": -1}
    if not is_number_below(at, many + more.get(kind, 0)):
        raise BadPlace(at)


def asked_behind(asked, kind, question):
    """What is watched, and what of it is held, behind a deed of this kind."""
    held = {one: is_held for one, is_held in asked}
    if kind == "free":
        if question not in held:
            raise NotWatched(question)
        return [pair for pair in asked if pair[0] != question]
    if question in held and (kind == "watch" or held[question]):
        raise IsWatched(question)
    held[question] = kind == "hold"
    return list(held.items())


def need_questions(after):
    for question, _ in after.asked:
        if question_of(after.now_source, question) is None:
            raise InUse(question)


def need_held(before, after):
    """Nothing that was held may be answered otherwise."""
    is_held = {question: held for question, held in before.asked}
    for question, ahead, behind in answered_otherwise(before, after):
        if is_held.get(question, False):
            raise WouldChange(question, why_changed(after, question, ahead, behind))


def can_take_line(state, at):
    try:
        after, _ = done_to(state, ("take", at))
        need_held(state, after)
        return True
    except (BadLines, InUse, WouldChange):
        return False
