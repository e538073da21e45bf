"""A paper text taken sign by sign, as long as some paper text begins so."""

from twoslots.names import FIGURES
from twoslots.signs import Reader

# What the next sign belongs to: the number of hours, the begin of a line, the line of a place,
# and its sign.
HOURS = 0
HEAD = 1
LINE = 2
SIGN = 3

MOST_FIGURES = 6


class PaperReader(Reader):
    """What was taken of a text; whatever was taken can be gone on with to a paper text."""

    def __init__(self):
        super().__init__(HOURS)
        self._due = "hours "
        self._many = 0
        self._blocks = []
        self._line = 0

    def hours(self):
        return self._many

    def blocks(self):
        """The list of the lists of pairs (line, sign) that were taken whole."""
        return [list(block) for block in self._blocks]

    def take(self, sign):
        """Whether the text can go on with a sign; if so it is taken."""
        if self._due:
            return self._take_due(sign)
        if self._mode == HEAD:
            return sign == "b" and self._begin_block()
        if sign in FIGURES:
            return self._grow(sign, self._can_grow(sign))
        if self._word == "":
            return False
        if self._mode == HOURS:
            return sign == "\n" and self._end_hours()
        if self._mode == LINE:
            return sign == "." and self._end_line_number()
        return sign in (" ", "\n") and self._end_place(sign)

    def _begin_block(self):
        self._blocks.append([])
        return self._go("lock ", LINE)

    def _can_grow(self, sign):
        """Whether a figure can be the next one of a number; places are counted from 1."""
        if self._word == "":
            return sign != "0" or self._mode == HOURS
        return self._word != "0" and len(self._word) < MOST_FIGURES

    def _end_hours(self):
        self._many = int(self._word)
        return self._go("", HEAD)

    def _end_line_number(self):
        self._line = int(self._word)
        return self._go("", SIGN)

    def _end_place(self, sign):
        self._blocks[-1].append((self._line, int(self._word)))
        return self._go("", LINE if sign == " " else HEAD)
