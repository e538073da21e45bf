"""Listings of orders, counted and numbered as lists compare."""

from twoslots.errors import BadListing, BadNumber
from twoslots.forests import InForest, OutForest
from twoslots.lots import Lots
from twoslots.names import is_list, is_number, is_number_below
from twoslots.orders import need_order


def count_listings(order):
    need_order(order)
    return counts_of(order).count()


def listing_at(order, number):
    need_order(order)
    # What is no number at all is refused without counting.
    if not is_number(number) or number >= counts_of(order).count():
        raise BadNumber(number)
    return counts_of(order).listing(number)


def listing_number(order, listing):
    need_order(order)
    if not is_list(listing):
        raise BadListing(0)
    index = first_wrong(order.ahead_bits(), listing)
    if index is not None:
        raise BadListing(index)
    return counts_of(order).number(listing)


def first_wrong(ahead, listing):
    """The index of the first thing that can not stand there, or that lacks; None if there is none."""
    listed = 0
    for index, thing in enumerate(listing):
        if not is_number_below(thing, len(ahead)) or listed & (1 << thing):
            return index
        if ahead[thing] & listed != ahead[thing]:
            return index
        listed = listed | (1 << thing)
    return None if len(listing) == len(ahead) else len(listing)


def counts_of(order):
    """What counts the listings of an order, which is worked out once."""
    kept = order.kept()
    if "listings" not in kept:
        kept["listings"] = counts_for(order)
    return kept["listings"]


def counts_for(order):
    pairs = order.direct()
    if len({other: True for _, other in pairs}) == len(pairs):
        return OutForest(order)
    if len({one: True for one, _ in pairs}) == len(pairs):
        return InForest(order)
    return Lots(order)
