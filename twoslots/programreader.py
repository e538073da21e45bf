"""A program's text taken sign by sign, as long as some program's text begins so."""

from twoslots.beginnings import Beginnings, cells_left, free_cell, free_name, names_left
from twoslots.names import FIGURES, begins_as_cell, begins_as_name, is_name, is_reserved
from twoslots.programs import SLOTS
from twoslots.signs import Reader

# What the next sign belongs to: the begin of a line, the name and the cell of a read, the line
# feed behind "-", the cell, the operation and the cells of an instruction (a first cell or a
# bracket that closes, a cell that must be there), what stands behind it, and the name and the
# cell of a tell.
HEAD = 0
READ_NAME = 1
READ_CELL = 2
NOTHING = 3
WRITTEN = 4
OPERATION = 5
FIRST_CELL = 6
CELL = 7
CLOSED = 8
TELL_NAME = 9
TELL_CELL = 10


class ProgramReader(Reader):
    """What was taken of a text; whatever was taken can be gone on with to a program's text."""

    def __init__(self):
        super().__init__(HEAD)
        self._reads = []
        self._hours = []
        self._tells = []
        self._read_names = Beginnings()
        self._read_cells = Beginnings()
        self._told_names = Beginnings()
        self._parts = []
        self._hour = []

    def reads(self):
        return list(self._reads)

    def hours(self):
        return list(self._hours)

    def tells(self):
        return list(self._tells)

    def take(self, sign):
        """Whether the text can go on with a sign; if so it is taken."""
        if self._due:
            return self._take_due(sign)
        if self._mode == HEAD:
            return self._take_head(sign)
        if self._mode in (READ_NAME, TELL_NAME):
            return self._take_name(sign)
        if self._mode in (READ_CELL, TELL_CELL):
            return self._take_named_cell(sign)
        if self._mode == WRITTEN:
            return self._take_written(sign)
        if self._mode == OPERATION:
            return self._take_operation(sign)
        if self._mode in (FIRST_CELL, CELL):
            return self._take_cell(sign)
        return self._take_behind(sign)

    def rest(self):
        """Signs with which what was taken becomes a program's text."""
        word = self._word
        if self._mode == HEAD:
            return ""
        if self._mode == READ_NAME:
            name = free_name(word, self._read_names)
            return self._due + name[len(word):] + " " + free_cell("", self._read_cells) + "\n"
        if self._mode == READ_CELL:
            return free_cell(word, self._read_cells)[len(word):] + "\n"
        if self._mode == TELL_NAME:
            return self._due + free_name(word, self._told_names)[len(word):] + " 1\n"
        if self._mode == TELL_CELL:
            return ("1" if word == "" else "") + "\n"
        return self._due + self._rest_of_hour() + "\n"

    def _rest_of_hour(self):
        if self._mode == WRITTEN:
            return ("1" if self._word == "" else "") + " = a()"
        if self._mode == OPERATION:
            return ("a" if self._word == "" or is_reserved(self._word) else "") + "()"
        if self._mode == CELL:
            return ("1" if self._word == "" else "") + ")"
        return ")" if self._mode == FIRST_CELL else ""

    def _take_head(self, sign):
        if sign == "t":
            return self._go("ell ", TELL_NAME)
        if self._tells:
            return False
        if sign == "-":
            return self._go("", NOTHING)
        if sign in FIGURES:
            return self._begin_instruction(sign)
        if sign != "r" or self._hours or cells_left("", self._read_cells) <= 0:
            return False
        return self._go("ead ", READ_NAME)

    def _begin_instruction(self, sign):
        if not self._grow(sign, begins_as_cell(sign)):
            return False
        self._mode = WRITTEN
        return True

    def _take_name(self, sign):
        taken = self._read_names if self._mode == READ_NAME else self._told_names
        if sign == " ":
            if not is_name(self._word) or taken.has(self._word):
                return False
            self._parts = [self._word]
            return self._go("", READ_CELL if self._mode == READ_NAME else TELL_CELL)
        return self._grow(sign, names_left(self._word + sign, taken) > 0)

    def _take_named_cell(self, sign):
        if sign == "\n":
            return self._end_named_cell()
        if self._mode == READ_CELL:
            return self._grow(sign, cells_left(self._word + sign, self._read_cells) > 0)
        return self._grow(sign, begins_as_cell(self._word + sign))

    def _end_named_cell(self):
        name = self._parts[0]
        if self._word == "":
            return False
        if self._mode == TELL_CELL:
            self._tells.append((name, int(self._word)))
            self._told_names.put(name)
            return self._go("", HEAD)
        if self._read_cells.has(self._word):
            return False
        self._reads.append((name, int(self._word)))
        self._read_names.put(name)
        self._read_cells.put(self._word)
        return self._go("", HEAD)

    def _take_written(self, sign):
        if sign == " " and self._word != "":
            self._parts = [int(self._word)]
            return self._go("= ", OPERATION)
        return self._grow(sign, begins_as_cell(self._word + sign))

    def _take_operation(self, sign):
        if sign == "(" and is_name(self._word):
            self._parts.append(self._word)
            return self._go("", FIRST_CELL)
        return self._grow(sign, begins_as_name(self._word + sign))

    def _take_cell(self, sign):
        if sign == ")" and (self._word != "" or self._mode == FIRST_CELL):
            if self._word != "":
                self._parts.append(int(self._word))
            self._hour.append((self._parts[0], self._parts[1], tuple(self._parts[2:])))
            return self._go("", CLOSED)
        if sign == "," and self._word != "":
            self._parts.append(int(self._word))
            return self._go(" ", CELL)
        if not self._grow(sign, begins_as_cell(self._word + sign)):
            return False
        self._mode = CELL
        return True

    def _take_behind(self, sign):
        if sign == "\n":
            self._hours.append(self._hour)
            self._hour = []
            return self._go("", HEAD)
        if sign != " " or self._mode == NOTHING or len(self._hour) == SLOTS:
            return False
        return self._go("| ", WRITTEN)
