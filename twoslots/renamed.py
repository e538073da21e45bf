"""Rows with a cell of its own for each result."""

from twoslots.orders import Order
from twoslots.rows import clashing_pairs, copied_row


def renamed(row):
    mine = copied_row(row)
    cells = free_cells(cells_at_first(mine), len(mine))
    holder = {}
    rows = []
    for at, instruction in enumerate(mine):
        read = tuple([holder.get(cell, cell) for cell in instruction[2]])
        rows.append((cells[at], instruction[1], read))
        holder[instruction[0]] = cells[at]
    return rows


def gone_pairs(row):
    mine = copied_row(row)
    ahead = Order(len(mine), clashing_pairs(renamed(mine))).ahead_bits()
    return [(one, other) for one, other in clashing_pairs(mine) if ahead[other] & (1 << one) == 0]


def cells_at_first(row):
    """The cells that are read ahead of being written."""
    written = {}
    found = {}
    for cell, _, cells in row:
        for part in cells:
            if part not in written:
                found[part] = True
        written[cell] = True
    return found


def free_cells(taken, many):
    """The least cells, so many, that are not taken."""
    cells = []
    cell = 1
    while len(cells) < many:
        if cell not in taken:
            cells.append(cell)
        cell += 1
    return cells
