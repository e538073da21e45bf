"""States: what a machine of some cells can hold, hour by hour, where values may be made again."""

from twoslots.cells import Values
from twoslots.orders import many_in, places_in
from twoslots.planfaults import is_ascending


class Machine:
    """A machine of some cells for a source. A state has a bit for each value that lies in a cell."""

    def __init__(self, source, cells):
        values = Values(source)
        self._cells = cells
        self._numbers = values.numbers
        self._place_of = {number: place for place, number in enumerate(values.numbers)}
        self._many_terms = len(source.worked().rows)
        # A read is not to be made, whatever is there.
        self._wants = {self._place_of[number]: self.bits(values.parts[number]) for number in values.needed}
        self.start = self.bits([number for number in values.numbers if self._place_of[number] not in self._wants])
        self.goal = self.bits(list(values.told))

    def bits(self, numbers):
        """The bits of some values."""
        state = 0
        for number in numbers:
            state = state | (1 << self._place_of[number])
        return state

    def numbers_in(self, state):
        """The values of a state, ascending."""
        return [self._numbers[place] for place in places_in(state)]

    def state_of(self, thing):
        """The bits of any object that is a state, None of what is none."""
        if not is_ascending(thing, self._many_terms) or len(thing) > self._cells:
            return None
        if not all([number in self._place_of for number in thing]):
            return None
        return self.bits(thing)

    def can_begin(self):
        return many_in(self.start) <= self._cells

    def is_done(self, state):
        """Whether all that is told lies in a state."""
        return is_within(self.goal, state)

    def behind(self, state):
        """The greatest ones of the states that come behind a state."""
        found = {}
        for made in self._makings(state):
            together = state | made
            for less in thinned(together, max(0, many_in(together) - self._cells)):
                found[less] = True
        return list(found)

    def _makings(self, state):
        """The bits of what can be made in an hour, none of which is there: pairs, if there are two."""
        can = [1 << place for place, wants in self._wants.items()
               if is_within(wants, state) and not is_within(1 << place, state)]
        if len(can) == 1:
            return can
        return [one | other for at, one in enumerate(can) for other in can[at + 1:]]

    def greatest(self, states):
        """Those, ascending as lists of their values, that do not lie within another one."""
        found = []
        for state in states:
            if many_in(state) >= self._cells or not lies_below(state, states):
                found.append((self.numbers_in(state), state))
        return [state for _, state in sorted(found)]


class Reached:
    """The greatest states that a machine can come to in so many hours, or fewer."""

    def __init__(self, machine):
        self._machine = machine
        self._layer = [machine.start] if machine.can_begin() else []
        self._new = self._layer
        # From each state to the one that it was come to from first.
        self._from = {state: None for state in self._layer}

    def layer(self):
        return list(self._layer)

    def go_on(self):
        """Goes on by an hour; tells whether there is a state more."""
        found = {state: True for state in self._layer}
        new = []
        for state in self._new:
            for other in self._machine.behind(state):
                if other not in self._from:
                    self._from[other] = state
                    found[other] = True
                    new.append(other)
        self._layer = self._machine.greatest(list(found))
        self._new = new
        return len(new) > 0

    def done(self):
        """The first state in which all lies that is told, None if there is none by now."""
        for state in self._layer:
            if self._machine.is_done(state):
                return state
        return None

    def way_to(self, state):
        """The states, from the first one on, by which a state was come to."""
        way = [state]
        while self._from[way[-1]] is not None:
            way.append(self._from[way[-1]])
        return way[::-1]


def is_within(bits, others):
    return bits & others == bits


def lies_below(bits, lots):
    """Whether some bits lie within others, of some lots, that are not the same."""
    return any([bits != others and is_within(bits, others) for others in lots])


def thinned(bits, many):
    """All that is left where so many of some bits are taken away."""
    lots = {bits: True}
    for _ in range(many):
        lots = {left ^ (1 << place): True for left in lots for place in places_in(left)}
    return list(lots)


def way_to_done(machine):
    """The states of a shortest way on which all is made that is told, None if there is none."""
    reached = Reached(machine)
    while reached.done() is None:
        if not reached.go_on():
            return None
    return reached.way_to(reached.done())
