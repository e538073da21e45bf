"""Chains: blocks one behind another, which show that fewer hours are not enough."""

from twoslots.errors import BadChain
from twoslots.names import is_list
from twoslots.orders import need_order
from twoslots.placed import placed_of
from twoslots.planfaults import is_ascending
from twoslots.plans import fewest_hours, need_hours
from twoslots.programs import SLOTS


def best_chain(order):
    need_order(order)
    placed = placed_of(order)
    return [placed.things(block) for block in cut_in_blocks(placed.hours())]


def cut_in_blocks(hours):
    """The blocks, of ranks, that the hours of ranks fall into ([40])."""
    blocks = []
    for hour in hours[::-1]:
        if not blocks or len(hour) < SLOTS or hour[1] > blocks[-1][0]:
            # A cut behind this hour: its second number, if it has one, is in no block.
            blocks.append([hour[0]])
        else:
            blocks[-1].extend(hour)
    return blocks[::-1]


def chain_against(order, hours):
    need_order(order)
    need_hours(hours)
    return best_chain(order) if fewest_hours(order) > hours else None


def chain_hours(order, chain):
    if chain_fault(order, chain) is not None:
        raise BadChain(chain)
    return sum([(len(block) + 1) // SLOTS for block in chain])


def chain_fault(order, thing):
    need_order(order)
    if not is_list(thing):
        return ("form", 0)
    ahead = order.ahead_bits()
    stood = {}
    for index, block in enumerate(thing):
        if not is_ascending(block, len(ahead)) or len(block) % SLOTS == 0:
            return ("form", index)
        for number in block:
            if number in stood:
                return ("again", index, number)
        pair = first_apart(ahead, thing[index - 1] if index > 0 else [], block)
        if pair is not None:
            return ("apart", index, pair[0], pair[1])
        for number in block:
            stood[number] = True
    return None


def first_apart(ahead, block, other):
    """The first pair of a number of one block and one of the next, the former not ahead of the latter."""
    for one in block:
        for number in other:
            if ahead[number] & (1 << one) == 0:
                return (one, number)
    return None
