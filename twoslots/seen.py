"""Orders told back from listings that were seen."""

from twoslots.errors import BadSeen
from twoslots.names import is_list, is_number_below
from twoslots.orders import Order


def need_seen(seen):
    if not is_list(seen) or len(seen) == 0:
        raise BadSeen(0)
    for index, thing in enumerate(seen):
        if not is_whole_listing(thing) or len(thing) != len(seen[0]):
            raise BadSeen(index)


def is_whole_listing(thing):
    """Whether a thing is a list of just the numbers below some number, each once."""
    if not is_list(thing) or not all([is_number_below(part, len(thing)) for part in thing]):
        return False
    return len(set(thing)) == len(thing)


def order_of_seen(seen):
    need_seen(seen)
    many = len(seen[0])
    stood = [places_in_listing(listing) for listing in seen]
    pairs = []
    for one in range(many):
        for other in range(many):
            if all([places[one] < places[other] for places in stood]):
                pairs.append((one, other))
    return Order(many, pairs)


def places_in_listing(listing):
    """For each thing its place in a listing."""
    places = [0 for _ in listing]
    for place, thing in enumerate(listing):
        places[thing] = place
    return places


def unseen(seen):
    ahead = order_of_seen(seen).ahead_bits()
    stood = {tuple(listing): True for listing in seen}
    for listing in seen:
        for at in range(len(listing) - 1):
            one = listing[at]
            other = listing[at + 1]
            turned = list(listing[:at]) + [other, one] + list(listing[at + 2:])
            if ahead[other] & (1 << one) == 0 and tuple(turned) not in stood:
                return turned
    return None
