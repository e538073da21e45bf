"""Listings of any order, counted by the lots of things that are left."""

from math import comb


class Lots:
    """How many listings the lots of an order's things have; a lot has a bit for each thing.

    A lot falls into parts, nothing of one ahead of anything of another: their listings mix freely.
    What was worked out of a lot is kept.
    """

    def __init__(self, order):
        ahead = order.ahead_bits()
        behind = order.behind_bits()
        self._all = (1 << order.many()) - 1
        # All three from the bit of a thing.
        self._ahead = {1 << thing: bits for thing, bits in enumerate(ahead)}
        self._behind = {1 << thing: bits for thing, bits in enumerate(behind)}
        self._near = {1 << thing: bits | behind[thing] for thing, bits in enumerate(ahead)}
        # From each part to its bits, from lots to their counts, and from what is left to the pairs of
        # a thing with which its listings can begin and how many do.
        self._bits = {}
        self._counts = {}
        self._begins = {}

    def count(self):
        return self._count(self._all)

    def listing(self, number):
        """The listing with a number below the count."""
        listing = []
        left = self._all
        while left:
            thing, number = self._thing_with(left, number)
            listing.append(thing)
            left = left ^ (1 << thing)
        return listing

    def number(self, listing):
        """The number of a listing."""
        number = 0
        left = self._all
        for thing in listing:
            for other, many in self._begins_of(left):
                if other == thing:
                    break
                number = number + many
            left = left ^ (1 << thing)
        return number

    def _thing_with(self, left, number):
        """The thing with which the listing of what is left with a number begins, and its number among those."""
        for thing, many in self._begins_of(left):
            if number < many:
                return thing, number
            number = number - many
        return None, number

    def _begins_of(self, left):
        """The pairs (thing, how many), ascending: how many of the listings of what is left begin with a thing."""
        if left not in self._begins:
            self._begins[left] = self._begins_by_parts(self._count(left), self._fall_apart(left))
        return self._begins[left]

    def _begins_by_parts(self, count, parts):
        many = sum([len(self._bits[part]) for part in parts])
        found = []
        for part in parts:
            bits = self._bits[part]
            # How the others are listed, and mixed with the part once its first thing stands.
            mixed = count * len(bits) // (many * self._counts[part])
            for bit in bits:
                if self._ahead[bit] & part == 0:
                    found.append((bit.bit_length() - 1, mixed * self._count(part ^ bit)))
        return sorted(found)

    def _count(self, lot):
        if lot not in self._counts:
            parts = self._fall_apart(lot)
            self._counts[lot] = self._count_of_one(lot) if len(parts) == 1 else self._count_mixed(parts)
        return self._counts[lot]

    def _count_mixed(self, parts):
        many = 0
        count = 1
        for part in parts:
            if part not in self._counts:
                self._counts[part] = self._count_of_one(part)
            size = len(self._bits[part])
            many = many + size
            count = count * comb(many, size) * self._counts[part]
        return count

    def _count_of_one(self, part):
        """How many listings a lot has that does not fall into parts: by its first or its last thing."""
        bits = self._bits[part]
        if len(bits) < 3:
            return 1
        firsts = [bit for bit in bits if self._ahead[bit] & part == 0]
        if len(firsts) < 3:
            return sum([self._count(part ^ bit) for bit in firsts])
        lasts = [bit for bit in bits if self._behind[bit] & part == 0]
        if 2 * len(lasts) < len(firsts):
            return self._count_by_ends(part, lasts, self._ahead)
        return self._count_by_ends(part, firsts, self._behind)

    def _count_by_ends(self, part, ends, near):
        """Of ends that have the same things near them each one leaves as many listings."""
        times = {}
        ones = {}
        for bit in ends:
            shared = near[bit] & part
            times[shared] = times.get(shared, 0) + 1
            ones[shared] = bit
        return sum([many * self._count(part ^ ones[shared]) for shared, many in times.items()])

    def _fall_apart(self, lot):
        parts = []
        while lot:
            part = lot & -lot
            bits = [part]
            at = 0
            while at < len(bits) and part != lot:
                new = self._near[bits[at]] & lot & ~part
                part = part | new
                while new:
                    least = new & -new
                    bits.append(least)
                    new = new ^ least
                at += 1
            self._bits[part] = bits
            parts.append(part)
            lot = lot ^ part
        return parts
