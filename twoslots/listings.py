"""Listings of orders, counted and numbered as lists compare."""

from twoslots.errors import BadListing, BadNumber
from twoslots.listingcounts import Listed
from twoslots.names import is_list, is_number_below
from twoslots.orders import need_order


def count_listings(order):
    need_order(order)
    return Listed(order).count()


def listing_at(order, number):
    need_order(order)
    listed = Listed(order)
    if not is_number_below(number, listed.count()):
        raise BadNumber(number)
    listing = []
    left = number
    while len(listing) < order.many():
        thing, left = thing_with(listed, left)
        listed.put(thing)
        listing.append(thing)
    return listing


def thing_with(listed, number):
    """The thing that stands next in the listing with a number, and its number among those with this one."""
    for thing in listed.next_things():
        many = listed.count_with(thing)
        if number < many:
            return thing, number
        number = number - many
    return None, number


def listing_number(order, listing):
    need_order(order)
    if not is_list(listing):
        raise BadListing(0)
    listed = Listed(order)
    number = 0
    for index, thing in enumerate(listing):
        things = listed.next_things()
        if not is_number_below(thing, order.many()) or thing not in things:
            raise BadListing(index)
        number = number + sum([listed.count_with(one) for one in things if one < thing])
        listed.put(thing)
    if len(listing) < order.many():
        raise BadListing(len(listing))
    return number
