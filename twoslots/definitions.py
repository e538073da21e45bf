"""Operations that are defined by exprs, and sources without them."""

from twoslots.errors import BadRows
from twoslots.expansions import Body, Expander, kept_parts
from twoslots.exprs import copied_expr, expr_text, operations_used
from twoslots.names import is_list, is_name
from twoslots.needed import needed_terms, told_terms
from twoslots.plaintexts import source_of_terms
from twoslots.sources import need_source
from twoslots.worked import is_read


class Definitions:
    """For each operation, with as many parts, the names of these and an expr over them."""

    def __init__(self, rows):
        if not is_list(rows):
            raise BadRows(0)
        stood = {}
        self._rows = []
        for index, thing in enumerate(rows):
            row = copied_definition(thing)
            if row is None or (row[0], len(row[1])) in stood:
                raise BadRows(index)
            stood[(row[0], len(row[1]))] = True
            self._rows.append(row)
        # Texts are compared instead of exprs, as tuples within one another can be too deep for ==.
        self._texts = {(operation, len(names)): (names, expr_text(expr)) for operation, names, expr in self._rows}

    def rows(self):
        return [(operation, list(names), expr) for operation, names, expr in self._rows]

    def __eq__(self, other):
        return isinstance(other, Definitions) and self._texts == other._texts


def copied_definition(thing):
    """A definition with tuples throughout, None if it is none."""
    if not is_list(thing) or len(thing) != 3 or not is_name(thing[0]) or not is_list(thing[1]):
        return None
    known = {}
    for name in thing[1]:
        if not is_name(name) or name in known:
            return None
        known[name] = True
    expr = copied_expr(thing[2], known)
    return None if expr is None else (thing[0], tuple(thing[1]), expr)


def exprs_of(definitions):
    """From each pair (operation, how many parts) that is defined to the pair of its names and its expr."""
    return {(operation, len(names)): (names, expr) for operation, names, expr in definitions.rows()}


def expanded(source, definitions):
    if ring_of_uses(source, definitions) is not None:
        return None
    bodies = bodies_by(exprs_of(definitions), uses_from(source, definitions))
    expander = Expander(bodies)
    rows = source.worked().rows
    marks = marks_kept(rows, told_terms(source), bodies)
    numbers = []
    for at, row in enumerate(rows):
        if is_read(row):
            numbers.append(expander.read(row[1]))
        elif marks[at]:
            parts = [numbers[part] for part in kept_parts(bodies, row[0], row[1])]
            numbers.append(expander.made((row[0], len(row[1])), tuple(parts)))
        else:
            numbers.append(None)
    told = [(name, numbers[number]) for name, number in source.worked().told]
    return source_of_terms(expander.rows(), source.reads(), told)


def bodies_by(exprs, uses):
    """From each operation that uses others, but none of a ring, to its body."""
    bodies = {}
    while len(bodies) < len(uses):
        for one, used in uses.items():
            if one not in bodies and all([other in bodies for other in used]):
                bodies[one] = Body(exprs[one][0], exprs[one][1], bodies)
    return bodies


def marks_kept(rows, told, bodies):
    """For each term whether it is told, or a part that is kept of one so marked."""
    marks = [False for _ in rows]
    for number in told:
        marks[number] = True
    for number in range(len(rows) - 1, -1, -1):
        if marks[number] and not is_read(rows[number]):
            for part in kept_parts(bodies, rows[number][0], rows[number][1]):
                marks[part] = True
    return marks


def ring_of_uses(source, definitions):
    need_source(source)
    uses = uses_from(source, definitions)
    best = None
    for one in sorted(uses):
        steps = steps_back_to(uses, one)
        many = min([steps[other] + 1 for other in uses[one] if other in steps], default=None)
        # Of rings that are as short the one with the first begin is kept.
        if many is not None and (best is None or many < len(best)):
            best = first_ring(uses, one, steps, many)
    return best


def uses_from(source, definitions):
    """From each defined operation that a source comes to by uses to the defined ones, ascending, that it uses."""
    exprs = exprs_of(definitions)
    rows = source.worked().rows
    left = [(rows[number][0], len(rows[number][1])) for number in needed_terms(source)]
    uses = {}
    while left:
        one = left.pop()
        if one in exprs and one not in uses:
            used = [other for other in operations_used(exprs[one][1]) if other in exprs]
            uses[one] = sorted(used)
            left.extend(used)
    return uses


def steps_back_to(uses, one):
    """From each operation that leads to one by uses to how few steps lead there, 0 from itself."""
    steps = {one: 0}
    queue = [one]
    at = 0
    while at < len(queue):
        last = queue[at]
        at += 1
        for other, used in uses.items():
            if other not in steps and last in used:
                steps[other] = steps[last] + 1
                queue.append(other)
    return steps


def first_ring(uses, one, steps, many):
    """The first ring of so many operations, the fewest that can be, that begins with one."""
    ring = [one]
    while len(ring) < many:
        rest = many - len(ring)
        ring.append([other for other in uses[ring[-1]] if steps.get(other) == rest][0])
    return ring
