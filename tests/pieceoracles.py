"""Other ways to tell what sources give names put behind one another, with terms as nested tuples."""

import random

from twoslots.sources import Source

from tests.samples import random_expr, terms_within, written


def gives(source):
    """From each told name to its term."""
    return dict(written(source)[2])


def replaced(term, given):
    if term[0] == "read":
        return given.get(term[1], term)
    return (term[0],) + tuple(replaced(part, given) for part in term[1:])


def given_behind(one, other):
    """What names are given by one, a dict from names to terms, and another one behind it."""
    found = {name: replaced(term, one) for name, term in other.items()}
    for name, term in one.items():
        found.setdefault(name, term)
    return found


def given_again(source, many):
    given = {name: ("read", name) for name in source.tells()}
    for _ in range(many):
        given = given_behind(given, gives(source))
    return given


def reads_of(terms):
    return {part[1] for term in terms for part in terms_within(term) if part[0] == "read"}


OPERATIONS = [("f", 1), ("g", 2), ("k", 0)]


def text_between(rng, names="pqrst", most=5, made=0.5):
    """A source that gives some names anew, by the values that were read."""
    lines = [("read", name) for name in rng.sample(names, rng.randint(len(names) // 2, len(names)))]
    read = [line[1] for line in lines]
    told = rng.sample(names, rng.choice([0, 1, most // 2, most, most]))
    for name in told:
        if read and rng.random() > made:
            expr = rng.choice(read)
        else:
            expr = random_expr(rng, read, 2, OPERATIONS)
        lines.append(("give", "t" + name, expr))
    for name in told:
        lines.append(("give", name, "t" + name))
        if rng.random() < 0.2:
            lines.append(("give", "idle", ("u", name)))
    return Source(lines + [("tell", name) for name in rng.sample(told, len(told))])


def texts_between(seed, many, **more):
    rng = random.Random(seed)
    return [text_between(rng, **more) for _ in range(many)]


def turning_text(names, given):
    """A source that tells each name for an expr over what was read."""
    lines = [("read", name) for name in names]
    lines += [("give", "t" + name, given[name]) for name in given]
    for name in given:
        lines += [("give", name, "t" + name), ("tell", name)]
    return Source(lines)
