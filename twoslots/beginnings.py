"""Words that are known by their beginnings, and what names and cells are left that begin so."""

from twoslots.names import FIGURES, MOST_CELLS, MOST_SIGNS, SIGNS
from twoslots.names import begins_as_cell, begins_as_name, is_name


class Beginnings:
    """A bag of unlike words, which tells how many of them begin with some signs."""

    def __init__(self):
        self._words = {}
        self._begun = {}

    def has(self, word):
        return word in self._words

    def begun(self, word):
        return self._begun.get(word, 0)

    def put(self, word):
        if word not in self._words:
            self._words[word] = True
            self._change(word, 1)

    def drop(self, word):
        """Takes away a word that it has."""
        del self._words[word]
        self._change(word, -1)

    def least(self, beginning):
        """The least word that begins so; there must be one."""
        return min([word for word in self._words if word.startswith(beginning)])

    def _change(self, word, by):
        for end in range(len(word) + 1):
            beginning = word[:end]
            self._begun[beginning] = self._begun.get(beginning, 0) + by


def names_begun(word):
    """How many names begin with a word that is not empty."""
    if not begins_as_name(word):
        return 0
    many = 0
    for _ in range(MOST_SIGNS + 1 - len(word)):
        many = many * len(SIGNS) + 1
    return many - len([taken for taken in ("read", "tell") if taken.startswith(word)])


def cells_begun(word):
    """How many cells are written with these figures first."""
    if not begins_as_cell(word):
        return 0
    many = 0
    for _ in range(len(str(MOST_CELLS)) + 1 - max(1, len(word))):
        many = many * len(FIGURES) + 1
    if word == "":
        many = many * (len(FIGURES) - 1)
    return many


def names_left(word, taken):
    """How many names begin with a word and are not taken."""
    return names_begun(word) - taken.begun(word)


def cells_left(word, taken):
    """How many cells are written with these figures first and are not taken."""
    return cells_begun(word) - taken.begun(word)


def free_name(word, taken):
    """A name that begins with a word and is not taken; there must be one."""
    while not is_name(word) or taken.has(word):
        word = word + [sign for sign in SIGNS if names_left(word + sign, taken) > 0][0]
    return word


def free_cell(word, taken):
    """The text of a cell that begins so and is not taken; there must be one."""
    while word == "" or taken.has(word):
        word = word + [sign for sign in FIGURES if cells_left(word + sign, taken) > 0][0]
    return word
