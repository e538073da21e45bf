"""Other ways to tell what texts are sources' and programs', and whether a text can be gone on with.

They share no code with the package: whole texts are read by regular expressions, and whether a
text goes on is tried with many ends.
"""

import functools
import re

NAME = "(?!(?:read|tell)(?![a-z0-9]))[a-z][a-z0-9]{0,7}(?![a-z0-9])"
CELL = "[1-9][0-9]{0,2}(?![0-9])"


def expr_is_right(text, known):
    """Whether a text is an expr of known names: calls are replaced from within by a name."""
    text = re.sub(r"[a-z0-9]+(?!\(|[a-z0-9])", lambda found: "!" if found[0] in known else "?", text)
    while True:
        less = re.sub(NAME[:-len("(?![a-z0-9])")] + r"\((?:!(?:, !)*)?\)", "!", text)
        if less == text:
            return text == "!"
        text = less


@functools.lru_cache(maxsize=10000)
def source_state(text):
    """The names that are known and told behind lines, None if they are no source's."""
    if text == "":
        return frozenset(), frozenset()
    cut = text.rfind("\n", 0, -1) + 1
    state = source_state(text[:cut])
    return state and behind_line(state[0], state[1], text[cut:-1])


def behind_line(known, told, line):
    found = re.fullmatch("(read|tell) (" + NAME + ")", line)
    if found and found[1] == "read":
        return None if found[2] in known else (known | {found[2]}, told)
    if found:
        return (known, told | {found[2]}) if found[2] in known - told else None
    found = re.fullmatch("(" + NAME + ") = (.*)", line)
    return (known | {found[1]}, told) if found and expr_is_right(found[2], known) else None


def is_source_text(text):
    if text and not text.endswith("\n"):
        return False
    cut = text.rfind("\n", 0, -1) + 1 if text else 0
    state = source_state(text[:cut])
    return state is not None and (text == "" or behind_line(state[0], state[1], text[cut:-1]) is not None)


def source_ends(text):
    """Ends of which one makes a text a source's if any end does (while names are not running out)."""
    known = re.findall("(?:^|\n)(?:read )?([a-z0-9]+)(?= =|\n)", text) + ["q", "w"]
    line = text.split("\n")[-1]
    open_calls = max(0, line.count("(") - line.count(")"))
    for closed in {open_calls, max(0, open_calls - 1)}:
        for middle in ["", "()", "a()", "u()", " a()", "= a()", " = a()", "a = a()", ")"]:
            yield middle + ")" * closed + "\n"
    yield ""
    word = line.split(" ")[-1]
    for name in known:
        if name.startswith(word):
            yield name[len(word):] + "\n"
        yield " " + name + "\n"
    for sign in "qw012":
        yield sign + "\n"


INSTRUCTION = CELL + " = " + NAME + r"\((?:" + CELL + "(?:, " + CELL + ")*)?\\)"
HOUR = "-|" + INSTRUCTION + r"(?: \| " + INSTRUCTION + ")?"
NAMED = "(read|tell) (" + NAME + ") (" + CELL + ")"


@functools.lru_cache(maxsize=10000)
def program_state(text):
    """Names and cells that are read, names that are told, and the part come to; None if there is none."""
    if text == "":
        return frozenset(), frozenset(), frozenset(), 0
    cut = text.rfind("\n", 0, -1) + 1
    state = program_state(text[:cut])
    return state and behind_program_line(state, text[cut:-1])


def behind_program_line(state, line):
    names, cells, told, part = state
    found = re.fullmatch(NAMED, line)
    if found and found[1] == "read":
        right = part == 0 and found[2] not in names and found[3] not in cells
        return (names | {found[2]}, cells | {found[3]}, told, 0) if right else None
    if found:
        return (names, cells, told | {found[2]}, 2) if found[2] not in told else None
    return (names, cells, told, 1) if part < 2 and re.fullmatch(HOUR, line) else None


def is_program_text(text):
    if text and not text.endswith("\n"):
        return False
    cut = text.rfind("\n", 0, -1) + 1 if text else 0
    state = program_state(text[:cut])
    return state is not None and (text == "" or behind_program_line(state, text[cut:-1]) is not None)


def program_ends(text):
    yield ""
    for middle in ["", "1", " 1", "= a()", " = a()", " a()", "a()", "()", ")", "1)", " 1)", "| 1 = a()", " 1 = a()"]:
        yield middle + "\n"
    for name in ["q", "5"]:
        for cell in ["1", "75"]:
            for begin in ["", "ead ", "ad ", "d ", " ", "ell ", "ll ", "l "]:
                yield begin + name + " " + cell + "\n"
            yield " " + cell + "\n"
    for figure in "0123456789":
        yield figure + "\n"
        yield figure + "7\n"
