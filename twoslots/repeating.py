"""Sources put behind themselves, many times: they settle, or a ring grows."""

from math import lcm

from twoslots.behind import put_behind
from twoslots.errors import BadMany
from twoslots.names import is_list, is_name, is_number
from twoslots.orders import Order
from twoslots.sources import Source, need_source
from twoslots.worked import is_read, marks_under


class Wants:
    """What the names that a source tells want; each other name wants itself.

    wanted is from each of them to the read names, ascending, in its term; made has those that are
    given made terms.
    """

    def __init__(self, source):
        rows = source.worked().rows
        self.wanted = {}
        self.made = {}
        for name, number in source.worked().told:
            marks = marks_under(rows, [number], {})
            self.wanted[name] = sorted([row[1] for at, row in enumerate(rows) if marks[at] and is_read(row)])
            if not is_read(rows[number]):
                self.made[name] = True

    def growing_ring(self):
        for name in sorted(self.made):
            ring = self._ring_through(name)
            if ring is not None:
                return ring
        return None

    def _ring_through(self, name):
        """A shortest ring that begins with a name, None if it is on none."""
        came = {name: None}
        queue = [name]
        at = 0
        while at < len(queue):
            one = queue[at]
            at += 1
            for other in self.wanted.get(one, []):
                if other == name:
                    return way_to(came, one)
                if other not in came:
                    came[other] = one
                    queue.append(other)
        return None

    def turning(self):
        """From each told name on a ring to how many are on it, where no ring grows."""
        found = {}
        for name in self.wanted:
            many = self._steps_round(name)
            if many is not None:
                found[name] = many
        return found

    def _steps_round(self, name):
        """How many steps lead from a name to itself by names that are given names, None if none do."""
        one = name
        for many in range(len(self.wanted)):
            if one not in self.wanted or one in self.made:
                return None
            one = self.wanted[one][0]
            if one == name:
                return many + 1
        return None


def way_to(came, last):
    """The names by which a last one was come to, from the first one on."""
    way = [last]
    while came[way[-1]] is not None:
        way.append(came[way[-1]])
    return way[::-1]


def settles(source):
    need_source(source)
    wants = Wants(source)
    if wants.growing_ring() is not None:
        return None
    turning = wants.turning()
    period = 1
    for many in turning.values():
        period = lcm(period, many)
    return (greatest_depth(wants.wanted, [name for name in wants.wanted if name not in turning]), period)


def greatest_depth(wanted, names):
    """How many of some names, which are on no ring, want one another one by one at most."""
    place_of = {name: place for place, name in enumerate(names)}
    pairs = []
    for place, name in enumerate(names):
        pairs.extend([(place_of[other], place) for other in wanted[name] if other in place_of])
    return len(Order(len(names), pairs).levels())


def growing_ring(source):
    need_source(source)
    return Wants(source).growing_ring()


def is_growing_ring(source, thing):
    need_source(source)
    if not is_list(thing) or not all([is_name(name) for name in thing]):
        return False
    if len(set(thing)) < len(thing):
        return False
    wants = Wants(source)
    for at, name in enumerate(thing):
        # Behind the first name stands the last one, too, by Python's own indexes.
        if name not in wants.wanted.get(thing[at - 1], []):
            return False
    return any([name in wants.made for name in thing])


def need_many(many):
    if not is_number(many):
        raise BadMany(many)


def again(source, many):
    need_source(source)
    need_many(many)
    settled = settles(source)
    if settled is not None and many > settled[0]:
        many = settled[0] + (many - settled[0]) % settled[1]
    done = Source([("read", name) for name in source.tells()] + [("tell", name) for name in source.tells()])
    doubled = source
    while many > 0:
        if many % 2 == 1:
            done = put_behind(done, doubled)
        doubled = put_behind(doubled, doubled) if many > 1 else doubled
        many = many // 2
    return done


def alike_again(source, one, other):
    need_source(source)
    need_many(one)
    need_many(other)
    settled = settles(source)
    if one == other or settled is None:
        return one == other
    return min(one, other) >= settled[0] and (one - other) % settled[1] == 0
