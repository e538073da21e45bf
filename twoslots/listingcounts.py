"""How many listings go on from what is listed by now."""

from math import factorial

from twoslots.orders import places_in

# How the listings of what is left are counted: by the two closed forms, where each thing has at
# most one directly ahead of it or at most one directly behind it, else by a table.
BY_BEHIND = 0
BY_AHEAD = 1
BY_TABLE = 2


class Listed:
    """What is left to be listed of an order, and how many listings of it there are."""

    def __init__(self, order):
        many = order.many()
        self._ahead = [bits_of(order.ahead(thing)) for thing in range(many)]
        self._behind = [order.behind(thing) for thing in range(many)]
        self._left = (1 << many) - 1
        self._many = many
        # How many of what is left are ahead of each thing.
        self._many_ahead = [len(order.ahead(thing)) for thing in range(many)]
        self._kind = kind_of(order)
        self._above = {one: other for one, other in order.direct()} if self._kind == BY_AHEAD else {}
        self._shares = {}
        self._table = listing_table(self._ahead) if self._kind == BY_TABLE else {}
        self._count = self._count_all()

    def count(self):
        return self._count

    def next_things(self):
        """The things, ascending, that can stand next."""
        return things_next(self._left, self._ahead)

    def count_with(self, thing):
        """How many of the listings of what is left begin with a thing that can stand next."""
        if self._kind == BY_TABLE:
            return self._table[self._left ^ (1 << thing)]
        if self._kind == BY_BEHIND:
            return self._count * (len(self._behind[thing]) + 1) // self._many
        times, parts = self._share_below(self._above.get(thing), thing)
        return self._count * times // parts

    def put(self, thing):
        """Lists a thing that can stand next."""
        self._count = self.count_with(thing)
        self._left = self._left ^ (1 << thing)
        self._many = self._many - 1
        for one in self._behind[thing]:
            self._many_ahead[one] = self._many_ahead[one] - 1
        self._shares = {}

    def _share_below(self, above, thing):
        """Two numbers in whose proportion are the listings that begin with a thing to all listings.

        By the closed form these are alike for all things that have the same one directly behind.
        """
        if above not in self._shares:
            times = 1
            parts = self._many
            for one in self._behind[thing]:
                times = times * (self._many_ahead[one] + 1)
                parts = parts * self._many_ahead[one]
            self._shares[above] = (times, parts)
        return self._shares[above]

    def _count_all(self):
        if self._kind == BY_TABLE:
            return self._table[self._left]
        parts = 1
        for thing in range(self._many):
            many = len(self._behind[thing]) if self._kind == BY_BEHIND else self._many_ahead[thing]
            parts = parts * (many + 1)
        return factorial(self._many) // parts


def bits_of(things):
    bits = 0
    for thing in things:
        bits = bits | (1 << thing)
    return bits


def kind_of(order):
    pairs = order.direct()
    if len({other: True for _, other in pairs}) == len(pairs):
        return BY_BEHIND
    if len({one: True for one, _ in pairs}) == len(pairs):
        return BY_AHEAD
    return BY_TABLE


def things_next(left, ahead):
    return [thing for thing in places_in(left) if ahead[thing] & left == 0]


def listing_table(ahead):
    """From each lot of things that can be left to how many listings it has."""
    layers = [[(1 << len(ahead)) - 1]]
    for _ in ahead:
        found = {}
        for left in layers[-1]:
            for thing in things_next(left, ahead):
                found[left ^ (1 << thing)] = True
        layers.append(list(found))
    table = {0: 1}
    for layer in layers[-2::-1]:
        for left in layer:
            table[left] = sum([table[left ^ (1 << thing)] for thing in things_next(left, ahead)])
    return table
