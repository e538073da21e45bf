"""A session's text taken sign by sign, as long as some session's text begins so."""

from twoslots.beginnings import Beginnings
from twoslots.names import FIGURES
from twoslots.questions import PLAIN
from twoslots.signs import Reader
from twoslots.sourcereader import SourceReader

# What the next sign belongs to: the begin of a line, a line of the mark, a line of the source, a
# question.
HEAD = 0
MARK = 1
LINE = 2
QUESTION = 3

# A question whether so many hours are enough begins so.
IN = "in "


class SessionReader(Reader):
    """What was taken of a text; whatever was taken can be gone on with to a session's text."""

    def __init__(self):
        super().__init__(HEAD)
        self._mark = SourceReader()
        self._now = SourceReader()
        # The latest of MARK, LINE, QUESTION that a line was begun of.
        self._part = MARK
        self._asked = []
        self._holds = False
        # The questions, but for those with a number, that can still be asked.
        self._left = Beginnings()

    def mark_lines(self):
        return self._mark.lines()

    def now_lines(self):
        return self._now.lines()

    def questions(self):
        """The pairs (question, whether it is held) that were taken whole."""
        return list(self._asked)

    def take(self, sign):
        """Whether the text can go on with a sign; if so it is taken."""
        if self._due:
            return self._take_due(sign)
        if self._mode == HEAD:
            return self._take_head(sign)
        if self._mode == QUESTION:
            return self._take_question(sign)
        reader = self._mark if self._mode == MARK else self._now
        if not reader.take(sign):
            return False
        return self._go("", HEAD) if sign == "\n" else True

    def _take_head(self, sign):
        if sign == "m":
            return self._part == MARK and self._go("ark ", MARK)
        if sign == "l" and self._part != QUESTION:
            self._part = LINE
            return self._go("ine ", LINE)
        if sign not in ("w", "h"):
            return False
        if self._part != QUESTION:
            self._begin_questions()
        self._holds = sign == "h"
        return self._go("old " if self._holds else "atch ", QUESTION)

    def _begin_questions(self):
        self._part = QUESTION
        for word in PLAIN:
            self._left.put(word)
        for line in self._now.lines():
            if line[0] == "tell":
                self._left.put("told " + line[1])

    def _take_question(self, sign):
        if sign == "\n":
            return self._end_question()
        word = self._word + sign
        return self._grow(sign, self._left.begun(word) > 0 or self._can_ask_hours(word))

    def _can_ask_hours(self, word):
        """Whether a question with a number, which was not asked, begins so."""
        if IN.startswith(word):
            return True
        figures = word[len(IN):]
        if not word.startswith(IN) or not all([sign in FIGURES for sign in figures]):
            return False
        # Behind any other figure more figures can follow.
        return figures[0] != "0" or (figures == "0" and not self._was_asked(("in", 0)))

    def _was_asked(self, question):
        return (question, False) in self._asked or (question, True) in self._asked

    def _end_question(self):
        if self._left.has(self._word):
            self._left.drop(self._word)
            question = tuple(self._word.split(" "))
        elif self._word.startswith(IN) and len(self._word) > len(IN):
            question = ("in", int(self._word[len(IN):]))
        else:
            return False
        if self._was_asked(question):
            return False
        self._asked.append((question, self._holds))
        return self._go("", HEAD)
