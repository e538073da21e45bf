"""Orders: of some things, numbered from 0 on, which are ahead of which."""

from twoslots.errors import BadMany, BadOrder, BadPairs, NoThing
from twoslots.names import is_list, is_number, is_number_below


class Order:
    """How many things there are, and what is ahead of what, by whatever lies between.

    What is ahead of a thing, or behind it, is kept as an integer with a bit for each thing.
    What other files work out of an order is kept, too, as it never changes; nothing shows it.
    """

    def __init__(self, many, pairs):
        if not is_number(many):
            raise BadMany(many)
        if not is_list(pairs):
            raise BadPairs(0)
        right = many_pairs(many, pairs)
        listed = listed_things(many, pairs[:right])
        if len(listed) < many:
            raise BadPairs(first_turned(many, pairs[:right]))
        if right < len(pairs):
            raise BadPairs(right)
        given = {(one, other): True for one, other in pairs}
        self._many = many
        self._listed = listed
        self._ahead = bits_ahead(listed, list(given))
        self._behind = bits_ahead(listed[::-1], [(other, one) for one, other in given])
        # Whatever is direct was given, as nothing else leads from the one to the other.
        self._direct = sorted([pair for pair in given if self._behind[pair[0]] & self._ahead[pair[1]] == 0])
        self._kept = {}

    def many(self):
        return self._many

    def direct(self):
        return list(self._direct)

    def ahead(self, one):
        self._need_thing(one)
        return places_in(self._ahead[one])

    def behind(self, one):
        self._need_thing(one)
        return places_in(self._behind[one])

    def ahead_bits(self):
        """For each thing a bit for each one that is ahead of it."""
        return list(self._ahead)

    def behind_bits(self):
        """For each thing a bit for each one that is behind it."""
        return list(self._behind)

    def kept(self):
        """The dict in which other files keep, each under a name of its own, what they worked out."""
        return self._kept

    def levels(self):
        level_of = self.level_numbers()
        rows = [[] for _ in range(max(level_of, default=0))]
        for thing, level in enumerate(level_of):
            rows[level - 1].append(thing)
        return rows

    def level_numbers(self):
        """For each thing the number, from 1 on, of its level."""
        found = [1 for _ in range(self._many)]
        behind = things_behind(self._many, self._direct)
        for one in self._listed:
            for other in behind[one]:
                found[other] = max(found[other], found[one] + 1)
        return found

    def __eq__(self, other):
        return isinstance(other, Order) and self._many == other._many and self._ahead == other._ahead

    def _need_thing(self, one):
        if not is_number_below(one, self._many):
            raise NoThing(one)


def many_pairs(many, pairs):
    """How many things stand ahead of the first one that is no pair of things."""
    for index, thing in enumerate(pairs):
        if not is_pair_of_things(thing, many):
            return index
    return len(pairs)


def is_pair_of_things(thing, many):
    return is_list(thing) and len(thing) == 2 and all([is_number_below(part, many) for part in thing])


def things_behind(many, pairs):
    """For each thing the list of those that stand behind it in a pair."""
    behind = [[] for _ in range(many)]
    for one, other in pairs:
        behind[one].append(other)
    return behind


def listed_things(many, pairs):
    """All things, each behind those ahead of it by pairs; fewer if one would be ahead of itself."""
    behind = things_behind(many, pairs)
    waits = [0 for _ in range(many)]
    for _, other in pairs:
        waits[other] = waits[other] + 1
    listed = [thing for thing in range(many) if waits[thing] == 0]
    at = 0
    while at < len(listed):
        one = listed[at]
        for other in behind[one]:
            waits[other] = waits[other] - 1
            if waits[other] == 0:
                listed.append(other)
        at += 1
    return listed


def first_turned(many, pairs):
    """The index of the first pair by which a thing would be ahead of itself; there must be one."""
    right = 0
    wrong = len(pairs)
    while wrong - right > 1:
        middle = (right + wrong) // 2
        if len(listed_things(many, pairs[:middle])) < many:
            wrong = middle
        else:
            right = middle
    return wrong - 1


def bits_ahead(listed, pairs):
    """For each thing a bit for each one ahead of it; the things are listed behind what is ahead of them."""
    bits = [0 for _ in listed]
    behind = things_behind(len(listed), pairs)
    for one in listed:
        mine = bits[one] | (1 << one)
        for other in behind[one]:
            bits[other] = bits[other] | mine
    return bits


def places_in(bits):
    """The places, ascending, of the bits that are set."""
    places = []
    while bits:
        least = bits & -bits
        places.append(least.bit_length() - 1)
        bits = bits ^ least
    return places


def many_in(bits):
    """How many bits are set."""
    written = f"{bits:b}"
    return written.count("1")


def need_order(order):
    if not isinstance(order, Order):
        raise BadOrder(order)
