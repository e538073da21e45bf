"""Places of things: what is made in each hour if those of the greatest places are made first."""

from heapq import heappop, heappush

from twoslots.orders import places_in
from twoslots.programs import SLOTS


class Placed:
    """An order whose things have ranks by their places: rank 0 is that of the greatest place.

    Places do not hang on what is made first: of what is left behind a plan that is begun the
    places stand to one another as if nothing else were there. What is left has a bit for each rank.
    """

    def __init__(self, order):
        self._things = things_by_place(order)
        self._rank_of = [0 for _ in self._things]
        for rank, thing in enumerate(self._things):
            self._rank_of[thing] = rank
        self._ahead = [self.ranks(places_in(bits)) for bits in ordered(order.ahead_bits(), self._things)]
        self._hours = self.hours_of((1 << len(self._things)) - 1)

    def hours(self):
        """The ranks that are made in each hour of a best plan of all, the least one ahead."""
        return [list(hour) for hour in self._hours]

    def many_hours(self):
        return len(self._hours)

    def things(self, ranks):
        """The things that have some ranks, ascending."""
        return sorted([self._things[rank] for rank in ranks])

    def ranks(self, things):
        """A bit for the rank of each of some things."""
        bits = 0
        for thing in things:
            bits = bits | (1 << self._rank_of[thing])
        return bits

    def left_behind(self, begun):
        """What is left behind the hours of a plan that is begun."""
        made = [thing for hour in begun for thing in hour]
        return self.ranks(made) ^ ((1 << len(self._things)) - 1)

    def next_things(self, left):
        """The things, ascending, that nothing which is left is ahead of."""
        return self.things([rank for rank in places_in(left) if self._ahead[rank] & left == 0])

    def hours_of(self, left):
        """The ranks that are made in each hour of a best plan of what is left."""
        hours = []
        while left:
            hour = self._next_hour(left)
            for rank in hour:
                left = left ^ (1 << rank)
            hours.append(hour)
        return hours

    def _next_hour(self, left):
        hour = []
        rest = left
        while rest and len(hour) < SLOTS:
            least = rest & -rest
            rank = least.bit_length() - 1
            if self._ahead[rank] & left == 0:
                hour.append(rank)
            rest = rest ^ least
        return hour


def ordered(items, places):
    return [items[place] for place in places]


def things_by_place(order):
    """The things of an order, that with the greatest place first.

    Of two lists of places, greatest first, the lesser one is the lesser number if there is a bit
    for each place.
    """
    behind = order.behind_bits()
    waits = [len(places_in(bits)) for bits in behind]
    lists = [0 for _ in behind]
    queue = []
    for thing, many in enumerate(waits):
        if many == 0:
            heappush(queue, (0, thing))
    placed = []
    while queue:
        _, thing = heappop(queue)
        for one in order.ahead(thing):
            lists[one] = lists[one] | (1 << len(placed))
            waits[one] = waits[one] - 1
            if waits[one] == 0:
                heappush(queue, (lists[one], one))
        placed.append(thing)
    return placed[::-1]


def placed_of(order):
    """The places of an order's things, which are worked out once."""
    kept = order.kept()
    if "placed" not in kept:
        kept["placed"] = Placed(order)
    return kept["placed"]
