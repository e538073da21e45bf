"""Where the exprs of a source stand in its text."""

from twoslots.sources import need_source


def places(source):
    need_source(source)
    # Of the exprs of one line no two begin at one sign.
    return sorted([row[:4] for row in source.worked().met], key=lambda row: (row[0], row[1]))


def expr_at(source, line, sign):
    need_source(source)
    row = met_at(source.worked(), line, sign)
    return None if row is None else row[:4]


def met_at(worked, line, sign):
    """The row of the shortest expr that has a sign, with the number of its term; None where there is none."""
    if not 1 <= line < len(worked.met_counts):
        return None
    for row in worked.met[worked.met_counts[line - 1]:worked.met_counts[line]]:
        # Parts are met ahead of what they are parts of, so the first one is the shortest.
        if row[1] <= sign <= row[2]:
            return row
    return None
