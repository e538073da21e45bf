"""Exprs: copied, written, and gone through. Nothing here recurs, so they may be of any depth."""

from twoslots.names import is_list, is_name


def copied_expr(thing, known):
    """An expr with tuples throughout, None if it is none in which just known names stand."""
    frames = [[(thing,), 0, []]]
    while True:
        row, done, copies = frames[-1]
        if done == len(row):
            frames.pop()
            if not frames:
                return copies[0]
            frames[-1][2].append(tuple(copies))
            continue
        frames[-1][1] = done + 1
        part = row[done]
        if len(frames) > 1 and done == 0:
            if not is_name(part):
                return None
            copies.append(part)
        elif isinstance(part, str) and part in known:
            copies.append(part)
        elif is_list(part) and len(part) > 0:
            frames.append([part, 0, []])
        else:
            return None


def expr_text(expr):
    pieces = []
    left = [expr]
    while left:
        piece = left.pop()
        if isinstance(piece, str):
            pieces.append(piece)
            continue
        left.append(")")
        for at in range(len(piece) - 1, 0, -1):
            left.append(piece[at])
            if at > 1:
                left.append(", ")
        left.append(piece[0] + "(")
    return "".join(pieces)


def operations_used(expr):
    """The unlike pairs (operation, how many parts) that stand in an expr."""
    found = {}
    left = [expr]
    while left:
        part = left.pop()
        if not isinstance(part, str):
            found[(part[0], len(part) - 1)] = True
            left.extend(part[1:])
    return list(found)


def placed_exprs(expr, first):
    """All exprs within one whose text begins at a sign, itself too, as triples (first, last, expr).

    Parts stand ahead of what they are parts of, left to right.
    """
    placed = []
    frames = [[expr, first, 1]]
    sign = first
    while frames:
        whole, begin, part = frames[-1]
        if isinstance(whole, str):
            sign = begin + len(whole)
        elif part < len(whole):
            ahead = len(whole[0]) + 1 if part == 1 else 2
            frames[-1][2] = part + 1
            sign = sign + ahead
            frames.append([whole[part], sign, 1])
            continue
        else:
            sign = sign + 1 if len(whole) > 1 else begin + len(whole[0]) + 2
        placed.append((begin, sign - 1, whole))
        frames.pop()
    return placed
