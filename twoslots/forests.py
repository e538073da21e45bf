"""Listings of orders in which each thing has at most one directly ahead of it, or directly behind it."""

from math import factorial

from twoslots.orders import many_in, things_behind


class OutForest:
    """An order each thing of which has at most one directly ahead of it.

    Of the listings of what is left so great a share begins with a thing that nothing left is ahead
    of as what it weighs, which is how many are behind it, and itself, is of all that is left.
    """

    def __init__(self, order):
        self._weights = [many_in(bits) + 1 for bits in order.behind_bits()]
        self._behind = things_behind(order.many(), order.direct())
        self._free = [thing for thing, bits in enumerate(order.ahead_bits()) if bits == 0]
        self._count = factorial(order.many()) // product_of(self._weights)

    def count(self):
        return self._count

    def listing(self, number):
        """The listing with a number below the count."""
        listing = []
        free = self._free
        count = self._count
        for many in range(len(self._weights), 0, -1):
            thing, ahead = self._thing_at(free, number * many // count)
            number = number - count * ahead // many
            count = count * self._weights[thing] // many
            free = self._free_behind(free, thing)
            listing.append(thing)
        return listing

    def number(self, listing):
        """The number of a listing."""
        number = 0
        free = self._free
        count = self._count
        many = len(listing)
        for thing in listing:
            number = number + count * sum([self._weights[one] for one in free if one < thing]) // many
            count = count * self._weights[thing] // many
            many = many - 1
            free = self._free_behind(free, thing)
        return number

    def _thing_at(self, free, weight):
        """The thing with which those ahead of it weigh more than this, and what those ahead of it weigh."""
        ahead = 0
        for thing in free:
            if weight < ahead + self._weights[thing]:
                return thing, ahead
            ahead = ahead + self._weights[thing]
        return None, ahead

    def _free_behind(self, free, thing):
        return sorted([one for one in free if one != thing] + self._behind[thing])


class InForest:
    """An order each thing of which has at most one directly behind it."""

    def __init__(self, order):
        self._ahead = [many_in(bits) for bits in order.ahead_bits()]
        self._behind = [None for _ in self._ahead]
        for one, other in order.direct():
            self._behind[one] = other
        self._count = factorial(order.many()) // product_of([many + 1 for many in self._ahead])

    def count(self):
        return self._count

    def listing(self, number):
        """The listing with a number below the count."""
        left = LeftOfForest(self._ahead, self._behind, self._count)
        listing = []
        for _ in self._ahead:
            thing, number = thing_with(left, number)
            left.put(thing)
            listing.append(thing)
        return listing

    def number(self, listing):
        """The number of a listing."""
        left = LeftOfForest(self._ahead, self._behind, self._count)
        number = 0
        for thing in listing:
            number = number + sum([left.count_with(one) for one in left.free() if one < thing])
            left.put(thing)
        return number


class LeftOfForest:
    """What is left to be listed of an order each thing of which has at most one directly behind it."""

    def __init__(self, ahead, behind, count):
        # How many of what is left are ahead of each thing.
        self._ahead = list(ahead)
        self._behind = behind
        self._count = count
        self._many = len(ahead)
        self._free = [thing for thing, many in enumerate(ahead) if many == 0]
        self._under = {}

    def free(self):
        """The things, ascending, that can stand next."""
        return list(self._free)

    def count_with(self, thing):
        """How many of the listings of what is left begin with a thing that can stand next."""
        other = self._behind[thing]
        if other is None:
            return self._count // self._many
        return self._count_under(other) // self._ahead[other]

    def _count_under(self, thing):
        """How many of the listings begin with a thing, or with one that is ahead of it."""
        way = []
        while thing is not None and thing not in self._under:
            way.append(thing)
            thing = self._behind[thing]
        for one in way[::-1]:
            other = self._behind[one]
            if other is None:
                self._under[one] = self._count * (self._ahead[one] + 1) // self._many
            else:
                self._under[one] = self._under[other] * (self._ahead[one] + 1) // self._ahead[other]
        return self._under[way[0] if way else thing]

    def put(self, thing):
        """Lists a thing that can stand next."""
        self._count = self.count_with(thing)
        self._many = self._many - 1
        self._under = {}
        self._free.remove(thing)
        other = self._behind[thing]
        if other is not None and self._ahead[other] == 1:
            self._free = sorted(self._free + [other])
        while other is not None:
            self._ahead[other] = self._ahead[other] - 1
            other = self._behind[other]


def thing_with(left, number):
    """The thing with which the listing of what is left with a number begins, and its number among those."""
    for thing in left.free():
        many = left.count_with(thing)
        if number < many:
            return thing, number
        number = number - many
    return None, number


def product_of(numbers):
    product = 1
    for number in numbers:
        product = product * number
    return product
