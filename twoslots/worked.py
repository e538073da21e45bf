"""What lines work out to: the terms, each one kept once, and where they stand."""

from twoslots.exprs import placed_exprs

# In a line "NAME = EXPR" these signs stand between the name and the expr.
GIVES = " = "


class TermBook:
    """Terms numbered as they are met: ("read", name), or (operation, tuple of numbers)."""

    def __init__(self):
        self.rows = []
        self._numbers = {}

    def number(self, row):
        """The number of a term, which is a new one if it was not met before."""
        if row not in self._numbers:
            self._numbers[row] = len(self.rows)
            self.rows.append(row)
        return self._numbers[row]


class Worked:
    """What the lines of a source work out to.

    rows are its terms, told the pairs (name, number) of its tells, met the tuples
    (line, first, last, expr, number) of its exprs, parts ahead of what they are parts of;
    counts tells, from 0 lines on, how many terms there are behind so many lines, and met_counts
    how many exprs.
    """

    def __init__(self, lines):
        self._book = TermBook()
        self._meant = {}
        self.rows = self._book.rows
        self.told = []
        self.met = []
        self.counts = [0]
        self.met_counts = [0]
        for at, line in enumerate(lines):
            self._work(at + 1, line)
            self.counts.append(len(self.rows))
            self.met_counts.append(len(self.met))

    def _work(self, at, line):
        name = line[1]
        if line[0] == "read":
            self._meant[name] = self._book.number(line)
        elif line[0] == "tell":
            self.told.append((name, self._meant[name]))
        else:
            self._meant[name] = self._met(at, name, line[2])

    def _met(self, at, name, expr):
        """The number of an expr's term; it and all within it are put down as met."""
        numbers = []
        for first, last, part in placed_exprs(expr, len(name) + len(GIVES) + 1):
            if isinstance(part, str):
                number = self._meant[part]
            else:
                begin = len(numbers) - (len(part) - 1)
                number = self._book.number((part[0], tuple(numbers[begin:])))
                del numbers[begin:]
            numbers.append(number)
            self.met.append((at, first, last, part, number))
        return numbers[0]


def is_read(row):
    return row[0] == "read"


def parts_of(row):
    """The numbers of a term's parts."""
    return () if is_read(row) else row[1]


def row_told(row):
    """A term as it is told: the numbers of its parts are a list of its own."""
    return row if is_read(row) else (row[0], list(row[1]))


def joint_terms(one, other):
    """The terms of two workings out as one list, and the pairs that each of them tells by it."""
    book = TermBook()
    told = []
    for worked in (one, other):
        numbers = numbers_in(book, worked.rows)
        told.append([(name, numbers[number]) for name, number in worked.told])
    return book.rows, told[0], told[1]


def numbers_in(book, rows):
    """The numbers that terms have in a book of terms, into which they are put."""
    numbers = []
    for row in rows:
        numbers.append(book.number(renumbered(row, numbers)))
    return numbers


def renumbered(row, numbers):
    if is_read(row):
        return row
    return (row[0], tuple([numbers[part] for part in row[1]]))


def marks_under(rows, told, held):
    """For each term whether it is wanted by told ones: told, or a part of a wanted one, and not held."""
    marks = [False for _ in rows]
    for number in told:
        marks[number] = number not in held
    for number in range(len(rows) - 1, -1, -1):
        if marks[number]:
            for part in parts_of(rows[number]):
                if part not in held:
                    marks[part] = True
    return marks
