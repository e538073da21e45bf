"""Programs made at random from a seed, and what they do, told without the package's own workings."""

import random

from twoslots.programs import Program
from twoslots.programtexts import read_program

from tests.samples import P_TEXT, written

P = read_program(P_TEXT)
NARROW_TEXT = "read a 1\nread b 2\n1 = f(1, 2)\n2 = g(1, 1)\n2 = h(2, 1)\ntell z 2\ntell x 1\n"
NARROW = read_program(NARROW_TEXT)
OPERATIONS = [("f", 1), ("f", 2), ("g", 2), ("k", 0)]


def program_of(text):
    """A program of lines that are split by slashes."""
    return read_program("".join(line.strip() + "\n" for line in text.split("/") if line.strip()))


def random_program(rng, cells=5, hours=5, right=True):
    """A program; a sound one if it is to be right, else one that reads and tells any cells."""
    every = list(range(1, cells + 1))
    reads = list(zip("abc", rng.sample(every, rng.randint(0, 3))))
    held = [cell for _, cell in reads]
    rows = []
    for _ in range(rng.randint(0, hours)):
        row = []
        for cell in rng.sample(every, rng.choice([0, 1, 2, 2])):
            name, many = rng.choice([one for one in OPERATIONS if not right or held or one[1] == 0])
            row.append((cell, name, tuple(rng.choice(held if right else every) for _ in range(many))))
        if not right and row and rng.random() < 0.3:
            row = [row[0], row[0]]
        rows.append(row)
        held = sorted(set(held) | {cell for cell, _, _ in row})
    some = held if right else every
    tells = [(name, rng.choice(some)) for name in rng.sample(["p", "q", "r"], rng.randint(0, 3)) if some]
    return Program(reads, rows, tells)


def random_programs(seed, many, **more):
    rng = random.Random(seed)
    return [random_program(rng, **more) for _ in range(many)]


def done(program):
    """What each cell holds behind the begin and each hour: pairs (term, who wrote it).

    Terms are nested tuples; it was written by ("read", name) or by a spot.
    """
    held = {cell: (("read", name), ("read", name)) for name, cell in program.reads()}
    states = [held]
    for at, hour in enumerate(program.hours(), 1):
        behind = dict(held)
        for slot, (cell, name, cells) in enumerate(hour, 1):
            behind[cell] = ((name,) + tuple(held[part][0] for part in cells), (at, slot))
        held = behind
        states.append(held)
    return states


def told_terms_of(program):
    last = done(program)[-1]
    return [(name, last[cell][0]) for name, cell in program.tells()]


def tells_the_same(source, program):
    return told_terms_of(program) == written(source)[2]


def finds(program):
    """Who wrote what each instruction and each tell reads, in their order."""
    states = done(program)
    found = []
    for at, hour in enumerate(program.hours()):
        found.append([[states[at][part][1] for part in cells] for _, _, cells in hour])
    return found, [(name, states[-1][cell][1]) for name, cell in program.tells()]


def spots_of(program):
    return [(at, slot) for at, hour in enumerate(program.hours(), 1) for slot in range(1, len(hour) + 1)]


def fault_by_hand(program):
    """The first fault, by the words of [54]."""
    full = {cell for _, cell in program.reads()}
    for at, hour in enumerate(program.hours(), 1):
        for slot, (cell, _, cells) in enumerate(hour, 1):
            empty = [part for part in cells if part not in full]
            if empty:
                return (at, slot, "empty", empty[0])
            if slot == 2 and cell == hour[0][0]:
                return (at, 2, "both", cell)
        full |= {cell for cell, _, _ in hour}
    for number, (_, cell) in enumerate(program.tells(), 1):
        if cell not in full:
            return (len(program.hours()) + 1, number, "empty", cell)
    return None
