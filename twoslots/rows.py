"""Rows: instructions one behind another, and what comes of them by exchanges of neighbours."""

from twoslots.errors import BadRow
from twoslots.names import is_list
from twoslots.orders import Order
from twoslots.programs import copied_hour, is_instruction


def need_row(row):
    if not is_list(row):
        raise BadRow(0)
    for index, thing in enumerate(row):
        if not is_instruction(thing):
            raise BadRow(index)


def copied_row(row):
    """A row with tuples for its instructions, once it is known to be one."""
    need_row(row)
    return copied_hour(row)


def do_clash(one, other):
    """Whether one of two instructions writes a cell that the other reads or writes."""
    return one[0] == other[0] or one[0] in other[2] or other[0] in one[2]


def clashing_pairs(row):
    """The pairs, ascending, of indexes of instructions that clash, the lesser one ahead."""
    pairs = []
    for one, instruction in enumerate(row):
        for other in range(one + 1, len(row)):
            if do_clash(instruction, row[other]):
                pairs.append((one, other))
    return pairs


def order_of_row(row):
    need_row(row)
    return Order(len(row), clashing_pairs(row))


def levels_of(row):
    mine = copied_row(row)
    return [sorted([mine[thing] for thing in level]) for level in order_of_row(mine).levels()]


def rearranged(row, other):
    mine = copied_row(row)
    others = copied_row(other)
    if fault_between(mine, others) is not None:
        return None
    places = places_there(mine, others)
    rows = [list(mine)]
    at = first_to_turn(places)
    while at is not None:
        turn(mine, at)
        turn(places, at)
        rows.append(list(mine))
        at = first_to_turn(places)
    return rows


def turn(items, at):
    """Exchanges an item and the next one."""
    items[at], items[at + 1] = items[at + 1], items[at]


def first_to_turn(places):
    """The first index at which a place and the next one stand the wrong way about, None if none do."""
    for at in range(len(places) - 1):
        if places[at] > places[at + 1]:
            return at
    return None


def turned_pair(row, other):
    mine = copied_row(row)
    return fault_between(mine, copied_row(other))


def fault_between(mine, others):
    """What bars exchanges from leading from one row to another one, None if nothing does."""
    unlike = unlike_often(mine, others)
    if unlike:
        return ("lacks", unlike[0])
    places = places_there(mine, others)
    for one, other in clashing_pairs(mine):
        if places[one] > places[other]:
            return ("turned", one, other)
    return None


def unlike_often(mine, others):
    """The instructions, ascending, that two rows do not have equally often."""
    more = {}
    for instruction in mine:
        more[instruction] = more.get(instruction, 0) + 1
    for instruction in others:
        more[instruction] = more.get(instruction, 0) - 1
    return sorted([instruction for instruction, many in more.items() if many != 0])


def places_there(mine, others):
    """Where each instruction of one row stands in another one that has the same, the k-th of alike ones as k-th."""
    found = {}
    for place, instruction in enumerate(others):
        found.setdefault(instruction, []).append(place)
    stood = {}
    places = []
    for instruction in mine:
        at = stood.get(instruction, 0)
        places.append(found[instruction][at])
        stood[instruction] = at + 1
    return places
