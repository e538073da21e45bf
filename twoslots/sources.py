"""Sources: lists of lines that read, give and tell."""

from twoslots.errors import BadLines, BadSource
from twoslots.exprs import copied_expr, expr_text
from twoslots.names import is_list, is_name
from twoslots.worked import GIVES, Worked


class Source:
    """A list of lines, kept as tuples throughout."""

    def __init__(self, lines):
        if not is_list(lines):
            raise BadLines(0)
        known = {}
        told = {}
        self._lines = []
        for index, thing in enumerate(lines):
            line = copied_line(thing, known, told)
            if line is None:
                raise BadLines(index)
            if line[0] == "tell":
                told[line[1]] = True
            else:
                known[line[1]] = True
            self._lines.append(line)
        # Texts are compared instead of lines, as tuples within one another can be too deep for ==.
        self._texts = [line_text(line) for line in self._lines]
        self._worked = Worked(self._lines)

    def lines(self):
        return list(self._lines)

    def reads(self):
        return [line[1] for line in self._lines if line[0] == "read"]

    def tells(self):
        return [line[1] for line in self._lines if line[0] == "tell"]

    def texts(self):
        """The text of each line, without a line feed."""
        return list(self._texts)

    def worked(self):
        """What the lines work out to; it is not to be changed."""
        return self._worked

    def __eq__(self, other):
        return isinstance(other, Source) and self._texts == other._texts


def copied_line(thing, known, told):
    """A line with tuples throughout, None if it is none behind known and told names."""
    if not is_list(thing) or len(thing) < 2 or not is_name(thing[1]):
        return None
    kind = thing[0]
    name = thing[1]
    if kind == "give" and len(thing) == 3:
        expr = copied_expr(thing[2], known)
        return None if expr is None else ("give", name, expr)
    if kind == "read" and len(thing) == 2 and name not in known:
        return ("read", name)
    if kind == "tell" and len(thing) == 2 and name in known and name not in told:
        return ("tell", name)
    return None


def line_text(line):
    if line[0] == "give":
        return line[1] + GIVES + expr_text(line[2])
    return line[0] + " " + line[1]


def need_source(source):
    if not isinstance(source, Source):
        raise BadSource(source)
