"""Sources and programs that the tests share, and small ones made at random from a seed."""

import random

from twoslots.sources import Source

T_TEXT = (
    "read a\n"
    "read b\n"
    "x = f(a, b)\n"
    "y = g(x, f(a, b))\n"
    "z = h(y, x)\n"
    "tell z\n"
    "tell x\n"
)

T_LINES = [
    ("read", "a"),
    ("read", "b"),
    ("give", "x", ("f", "a", "b")),
    ("give", "y", ("g", "x", ("f", "a", "b"))),
    ("give", "z", ("h", "y", "x")),
    ("tell", "z"),
    ("tell", "x"),
]

P_TEXT = (
    "read a 1\n"
    "read b 2\n"
    "3 = f(1, 2)\n"
    "4 = g(3, 3)\n"
    "4 = h(4, 3)\n"
    "tell z 4\n"
    "tell x 3\n"
)

P_READS = [("a", 1), ("b", 2)]
P_HOURS = [[(3, "f", (1, 2))], [(4, "g", (3, 3))], [(4, "h", (4, 3))]]
P_TELLS = [("z", 4), ("x", 3)]


def function_of_somebody(*things):
    return things


# One of each kind of object that is nowhere a source, a program, an order or a string.
NO_STRINGS = [0, 1, -1, True, False, None, [], ["a"], (), ("a",), {}, {"a": 1}, function_of_somebody]
OBJECTS = NO_STRINGS + ["", "a", "read"]


def source_of(text):
    """A source of lines that are split by slashes: "read a / x = f(a) / tell x"."""
    from twoslots.sourcetexts import read_source
    return read_source("".join(line.strip() + "\n" for line in text.split("/") if line.strip()))


def random_expr(rng, known, depth, operations):
    if known and (depth == 0 or rng.random() < 0.4):
        return rng.choice(known)
    name, many = rng.choice(operations)
    if depth == 0 and many > 0:
        name, many = "k", 0
    return (name,) + tuple(random_expr(rng, known, depth - 1, operations) for _ in range(many))


SOME_OPERATIONS = [("f", 1), ("f", 2), ("g", 2), ("k", 0)]


def random_lines(rng, many, depth=2, operations=SOME_OPERATIONS, names="abcd"):
    """Lines of a source, each of them a line where it stands."""
    lines = []
    known = []
    told = []
    while len(lines) < many:
        kind = rng.choice(["read", "give", "give", "give", "tell"])
        name = rng.choice(names)
        if kind == "read" and name not in known:
            lines.append(("read", name))
            known.append(name)
        elif kind == "give":
            lines.append(("give", name, random_expr(rng, known, depth, operations)))
            if name not in known:
                known.append(name)
        elif kind == "tell" and name in known and name not in told:
            lines.append(("tell", name))
            told.append(name)
    return lines


def random_sources(seed, many, lines=8, **more):
    rng = random.Random(seed)
    return [Source(random_lines(rng, rng.randint(0, lines), **more)) for _ in range(many)]


def written(source):
    """The terms of a source written out as nested tuples, without the package's term tables.

    Told: the list of the terms by line and, in each line, in the order they are worked out;
    the dict of what the names mean in the end; the list of the tells.
    """
    meant = {}
    met = []
    tells = []

    def work(line, expr):
        if isinstance(expr, str):
            return meant[expr]
        term = (expr[0],) + tuple(work(line, part) for part in expr[1:])
        met.append((line, term))
        return term

    for at, line in enumerate(source.lines(), 1):
        if line[0] == "read":
            meant[line[1]] = ("read", line[1])
            met.append((at, meant[line[1]]))
        elif line[0] == "give":
            meant[line[1]] = work(at, line[2])
        else:
            tells.append((line[1], meant[line[1]]))
    return met, meant, tells


def is_read_term(term):
    return term[0] == "read"


def term_parts(term):
    return () if is_read_term(term) else term[1:]


def terms_within(term):
    found = {term}
    for part in term_parts(term):
        found |= terms_within(part)
    return found


def term_list(source):
    """All terms of a source as nested tuples, in the order in which they are met first."""
    found = []
    for _, term in written(source)[0]:
        if term not in found:
            found.append(term)
    return found
