"""One source for each meaning."""

from twoslots.sources import Source, need_source
from twoslots.worked import is_read, marks_under


def plain_source(source):
    need_source(source)
    return source_of_terms(source.worked().rows, sorted(source.reads()), source.worked().told)


def source_of_terms(rows, reads, told):
    """The source with these reads, in their order, that tells the pairs (name, number) of some terms.

    Its lines are those of plain sources; whatever is told by no name is left out.
    """
    met = reads_then_met(rows, reads, [number for _, number in told])
    names = new_names(len(met), reads + [name for name, _ in told])
    name_of = {number: names[at] for at, number in enumerate(met)}
    lines = [("read", name) for name in reads]
    for number in met:
        lines.append(("give", name_of[number], plain_expr(rows[number], name_of)))
    for name, number in told:
        lines.append(("give", name, name_of[number]))
        lines.append(("tell", name))
    return Source(lines)


def source_of_told(rows, told):
    """As by source_of_terms, with just the read names, ascending, that stand in what is told."""
    marks = marks_under(rows, [number for _, number in told], {})
    reads = sorted([row[1] for number, row in enumerate(rows) if marks[number] and is_read(row)])
    return source_of_terms(rows, reads, told)


def plain_expr(row, name_of):
    if is_read(row):
        return row[1]
    return (row[0],) + tuple([name_of[part] for part in row[1]])


def reads_then_met(rows, reads, told):
    """The numbers of the reads, then of the made terms as they are met by told ones, parts ahead."""
    number_of = {row[1]: number for number, row in enumerate(rows) if is_read(row)}
    met = [number_of[name] for name in reads]
    seen = {number: True for number in met}
    # On top stands what is gone into next; a term is met when it is come to again, behind its parts.
    left = [(number, False) for number in told[::-1]]
    while left:
        number, again = left.pop()
        if number in seen:
            continue
        if again:
            seen[number] = True
            met.append(number)
            continue
        left.append((number, True))
        left.extend([(part, False) for part in rows[number][1][::-1]])
    return met


def new_names(many, taken):
    """The first ones of n0, n1, n2, .. that are not taken."""
    barred = {name: True for name in taken}
    names = []
    at = 0
    while len(names) < many:
        name = f"n{at}"
        if name not in barred:
            names.append(name)
        at += 1
    return names
