"""First wrong signs: readers, which take texts sign by sign, and where they take no more."""


class Reader:
    """What a reader of any texts keeps of what it took.

    It is the mode, which tells what the next sign belongs to, the word that is taken just now,
    and the signs that are due ahead of all else. A reader has take(sign), whether a text can go
    on with a sign, which is taken then, and rest(), signs with which a text becomes a whole one.
    """

    def __init__(self, mode):
        self._mode = mode
        self._word = ""
        self._due = ""

    def _go(self, due, mode):
        """Begins a new word behind what is due; tells True, as a sign that leads here is taken."""
        self._due = due
        self._mode = mode
        self._word = ""
        return True

    def _take_due(self, sign):
        if sign != self._due[0]:
            return False
        self._due = self._due[1:]
        return True

    def _grow(self, sign, can):
        """Puts a sign to the word if it can be; tells whether it can."""
        if can:
            self._word = self._word + sign
        return can


def many_taken(reader, text):
    """How many signs of a text a reader takes."""
    for many, sign in enumerate(text):
        if not reader.take(sign):
            return many
    return len(text)


def fault_with(reader, text):
    """None if a new reader takes a text to the end of a line, else the place of the first wrong sign."""
    if not isinstance(text, str):
        return (0, 0)
    many = many_taken(reader, text)
    if many == len(text) and (text == "" or text.endswith("\n")):
        return None
    begun = text[:many].split("\n")
    return (len(begun), len(begun[-1]) + 1)


def gone_on_with(reader, text):
    """A whole text that begins with what a new reader takes whole, None if it does not."""
    if not isinstance(text, str) or many_taken(reader, text) < len(text):
        return None
    return text + reader.rest()
