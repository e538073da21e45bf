"""A source's text taken sign by sign, as long as some source's text begins so."""

from twoslots.beginnings import Beginnings, free_name, names_left
from twoslots.names import SIGNS, begins_as_name, is_name, is_reserved
from twoslots.signs import Reader

# What the next sign belongs to: the first word of a line, the name behind "read" or "tell", an
# expr that is to begin, one that is to begin or a bracket that closes, a word of an expr, and
# what stands behind a bracket that closes.
HEAD = 0
READ = 1
TELL = 2
EXPR = 3
INNER = 4
WORD = 5
CLOSED = 6

# An expr that can stand anywhere, as it wants no name.
PLAIN = "a()"


class SourceReader(Reader):
    """What was taken of a text; whatever was taken can be gone on with to a source's text."""

    def __init__(self):
        super().__init__(HEAD)
        self._lines = []
        self._known = Beginnings()
        self._to_tell = Beginnings()
        self._told = {}
        self._given = ""
        self._calls = []
        self._made = ()

    def lines(self):
        """The lines that were taken whole."""
        return list(self._lines)

    def take(self, sign):
        """Whether the text can go on with a sign; if so it is taken."""
        if self._due:
            return self._take_due(sign)
        if self._mode == HEAD:
            return self._take_head(sign)
        if self._mode == READ:
            return self._take_read(sign)
        if self._mode == TELL:
            return self._take_tell(sign)
        if sign in SIGNS:
            return self._take_expr_word(sign)
        if sign == "(":
            return self._open_call()
        if sign == ")" and self._mode == INNER:
            return self._close_call()
        return self._take_behind_expr(sign)

    def rest(self):
        """Signs with which what was taken becomes a source's text."""
        if self._mode == HEAD:
            return self._rest_of_head()
        if self._mode == READ:
            return free_name(self._word, self._known)[len(self._word):] + "\n"
        if self._mode == TELL:
            return self._to_tell.least(self._word)[len(self._word):] + "\n"
        return self._due + self._rest_of_expr() + ")" * len(self._calls) + "\n"

    def _take_head(self, sign):
        if sign == " " and self._word != "":
            return self._end_head()
        return self._grow(sign, begins_as_name(self._word + sign))

    def _end_head(self):
        if self._word == "read":
            return self._go("", READ)
        if self._word == "tell":
            return self._to_tell.begun("") > 0 and self._go("", TELL)
        self._given = self._word
        return self._go("= ", EXPR)

    def _rest_of_head(self):
        if self._word == "":
            return ""
        return ("a" if is_reserved(self._word) else "") + " = " + PLAIN + "\n"

    def _take_read(self, sign):
        if sign == "\n":
            if not is_name(self._word) or self._known.has(self._word):
                return False
            return self._end_line(("read", self._word), self._word)
        return self._grow(sign, names_left(self._word + sign, self._known) > 0)

    def _take_tell(self, sign):
        if sign == "\n":
            if not self._to_tell.has(self._word):
                return False
            self._told[self._word] = True
            self._to_tell.drop(self._word)
            return self._end_line(("tell", self._word), self._word)
        return self._grow(sign, self._to_tell.begun(self._word + sign) > 0)

    def _take_expr_word(self, sign):
        if self._mode == CLOSED or not self._grow(sign, begins_as_name(self._word + sign)):
            return False
        self._mode = WORD
        return True

    def _open_call(self):
        if self._mode != WORD or is_reserved(self._word):
            return False
        self._calls.append([self._word])
        return self._go("", INNER)

    def _close_call(self):
        self._made = tuple(self._calls.pop())
        return self._go("", CLOSED)

    def _take_behind_expr(self, sign):
        if self._mode == WORD and self._known.has(self._word):
            expr = self._word
        elif self._mode == CLOSED:
            expr = self._made
        else:
            return False
        if sign == "\n" and not self._calls:
            return self._end_line(("give", self._given, expr), self._given)
        if sign not in (",", ")") or not self._calls:
            return False
        self._calls[-1].append(expr)
        return self._go(" ", EXPR) if sign == "," else self._close_call()

    def _rest_of_expr(self):
        if self._mode == EXPR:
            return PLAIN
        if self._mode == WORD and not self._known.has(self._word):
            return "a()" if is_reserved(self._word) else "()"
        return ""

    def _end_line(self, line, name):
        self._lines.append(line)
        self._known.put(name)
        if name not in self._told:
            self._to_tell.put(name)
        return self._go("", HEAD)
