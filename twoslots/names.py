"""What holds of names, integers, numbers, lists and cells wherever they stand."""

LETTERS = "abcdefghijklmnopqrstuvwxyz"
SIGNS = "abcdefghijklmnopqrstuvwxyz0123456789"
FIGURES = "0123456789"
MOST_SIGNS = 8
MOST_CELLS = 999


def is_list(thing):
    return isinstance(thing, (list, tuple))


def is_integer(thing):
    return isinstance(thing, int) and not isinstance(thing, bool)


def is_number(thing):
    return is_integer(thing) and thing >= 0


def is_number_below(thing, many):
    return is_number(thing) and thing < many


def is_reserved(word):
    return word in ("read", "tell")


def is_name(thing):
    if not isinstance(thing, str) or is_reserved(thing):
        return False
    return begins_as_name(thing) and thing != ""


def begins_as_name(word):
    """Whether a word is nothing, or could be the first signs of a name."""
    if len(word) > MOST_SIGNS:
        return False
    if word == "":
        return True
    return word[0] in LETTERS and all([sign in SIGNS for sign in word])


def is_cell(thing):
    return is_integer(thing) and 1 <= thing <= MOST_CELLS


def begins_as_cell(word):
    """Whether a word is nothing, or could be the first figures of a cell."""
    if len(word) > len(str(MOST_CELLS)):
        return False
    return all([sign in FIGURES for sign in word]) and not word.startswith("0")
