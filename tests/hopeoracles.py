"""Other ways to tell what a source needs from some terms on, and programs for a source made at random."""

import random

from twoslots.compiled import compiled
from twoslots.orders import Order
from twoslots.programs import Program

from tests.planoracles import least_hours
from tests.programsamples import done
from tests.samples import random_sources, term_list, term_parts, written


def told_terms_of_source(source):
    return [term for _, term in written(source)[2]]


def needs(told, held):
    """The terms that are needed where some are held, as a set of nested tuples; lost reads are among them."""
    found = set()
    left = [term for term in told if term not in held]
    while left:
        term = left.pop()
        if term not in found:
            found.add(term)
            left.extend(part for part in term_parts(term) if part not in held)
    return found


def reads_in(terms):
    return sorted(term[1] for term in terms if term[0] == "read")


def read_terms(source):
    return {("read", name) for name in source.reads()}


def needed_by(source):
    return needs(told_terms_of_source(source), read_terms(source))


def numbers_of(source, terms):
    """The ascending numbers of some terms in a source."""
    return [number for number, term in enumerate(term_list(source)) if term in terms]


def order_of_terms(terms):
    """The order of a list of terms as things, through these alone."""
    place = {term: at for at, term in enumerate(terms)}
    pairs = [(place[part], at) for at, term in enumerate(terms) for part in term_parts(term) if part in place]
    return Order(len(terms), pairs)


def hours_of_terms(terms):
    """How few hours some terms want, by trying all plans."""
    return least_hours(order_of_terms(list(terms)))


def hours_by(source):
    return hours_of_terms(needed_by(source))


def held_behind(program):
    """For the begin and each hour the set of the terms that lie in cells."""
    return [{term for term, _ in state.values()} for state in done(program)]


def making_of(rng, terms, held):
    """An operation on cells: mostly of a term of the source whose parts lie there."""
    cell_of = {term: cell for cell, term in held.items()}
    can = [term for term in terms if term[0] != "read" and all(part in cell_of for part in term_parts(term))]
    if can and rng.random() < 0.85:
        new = [term for term in can if term not in cell_of]
        term = rng.choice(new if new and rng.random() < 0.8 else can)
        return term[0], tuple(cell_of[part] for part in term[1:])
    many = rng.choice([0, 1, 2]) if held else 0
    return rng.choice("fgkm"), tuple(rng.choice(sorted(held)) for _ in range(many))


def random_program_for(rng, source, cells=6, hours=6):
    """A sound program that makes some of what a source makes, with hours and operations in vain."""
    terms = term_list(source)
    every = list(range(1, max(cells, len(source.reads())) + 1))
    names = [name for name in source.reads() if rng.random() < 0.95]
    reads = list(zip(rng.sample(names, len(names)), rng.sample(every, len(names))))
    held = {cell: ("read", name) for name, cell in reads}
    rows = []
    for _ in range(rng.randint(0, hours)):
        row = []
        free = [cell for cell in every if cell not in held]
        behind = dict(held)
        for _ in range(rng.choice([0, 1, 2, 2, 2])):
            name, read = making_of(rng, terms, held)
            cell = rng.choice(free if free and rng.random() < 0.8 else every)
            if cell not in [one[0] for one in row]:
                row.append((cell, name, read))
                behind[cell] = (name,) + tuple(held[part] for part in read)
        held = behind
        rows.append(row)
    tells = []
    for name, term in written(source)[2]:
        right = [cell for cell in held if held[cell] == term]
        if right or held:
            tells.append((name, rng.choice(right or sorted(held))))
    return Program(reads, rows, tells[:rng.choice([len(tells), len(tells), len(tells), 1])])


def rich_sources(seed, many, least=3, most=8, lines=16):
    """Sources at random that need some terms, but not too many to try all plans."""
    found = []
    while len(found) < many:
        seed += 1000
        found.extend(source for source in random_sources(seed, many, lines=lines)
                     if least <= len(needed_by(source)) <= most)
    return found[:many]


def spread_program(rng, source):
    """What a source is compiled to, with empty hours and makings in vain between."""
    program = compiled(source).program()
    rows = []
    for hour in program.hours():
        if rng.random() < 0.15:
            rows.append(rng.choice([[], [(90, "u", ())]]))
        rows.append(hour)
    return Program(program.reads(), rows, program.tells())


def sources_and_programs(seed, many, each=3, **more):
    rng = random.Random(seed)
    for source in rich_sources(seed, many) + random_sources(seed, 5):
        yield source, spread_program(rng, source)
        for _ in range(each):
            yield source, random_program_for(rng, source, **more)
