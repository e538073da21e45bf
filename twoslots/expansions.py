"""Operations replaced by what they are defined as, term by term. Nothing here recurs."""

from twoslots.worked import TermBook


class Body:
    """What is put for a defined operation: its steps, and the places of the parts that are kept in what comes out.

    A step is a pair ((operation, how many parts), how many of them are kept), parts ahead of what
    they are parts of, or (None, place) for the kept part at this place. What is dropped in the end
    has no steps, as it could be far greater than all that is kept.
    """

    def __init__(self, names, expr, bodies):
        kept = names_kept(expr, bodies)
        self._places = [place for place, name in enumerate(names) if name in kept]
        place_of = {names[place]: at for at, place in enumerate(self._places)}
        self.steps = steps_of(expr, place_of, bodies)

    def kept(self, parts):
        """Those of the parts that are kept."""
        return [parts[place] for place in self._places]


def kept_parts(bodies, operation, parts):
    """Those parts of an operation, defined or not, that are kept in what comes out."""
    key = (operation, len(parts))
    return bodies[key].kept(parts) if key in bodies else list(parts)


def names_kept(expr, bodies):
    """The names, as keys, of an expr that are kept in what comes out."""
    found = {}
    left = [expr]
    while left:
        part = left.pop()
        if isinstance(part, str):
            found[part] = True
        else:
            left.extend(kept_parts(bodies, part[0], part[1:]))
    return found


def steps_of(expr, place_of, bodies):
    """The steps of an expr whose names are kept at places."""
    steps = []
    left = [expr]
    while left:
        part = left.pop()
        if isinstance(part, str):
            steps.append((None, place_of[part]))
            continue
        kept = kept_parts(bodies, part[0], part[1:])
        steps.append(((part[0], len(part) - 1), len(kept)))
        left.extend(kept)
    # What was gone into last stands first: parts, left to right, ahead of what they are parts of.
    return steps[::-1]


class Expander:
    """A book of terms without defined operations.

    bodies is from the pairs (operation, how many parts) that are defined to their bodies. No ring
    of them may be come to.
    """

    def __init__(self, bodies):
        self._bodies = bodies
        self._book = TermBook()
        # From each pair of a defined operation and its kept parts to the number that comes of it.
        self._known = {}

    def rows(self):
        return list(self._book.rows)

    def read(self, name):
        return self._book.number(("read", name))

    def made(self, key, parts):
        """The number that comes of (operation, how many parts) on a tuple of the terms that are kept of these."""
        if key not in self._bodies:
            return self._book.number((key[0], parts))
        calls = [Call(key, parts, self._bodies[key].steps)]
        while calls:
            call = calls[-1]
            if call.is_done():
                self._known[(call.key, call.parts)] = call.result()
                calls.pop()
            elif call.wants_part():
                call.take_part()
            else:
                self._work(calls, call)
        return self._known[(key, parts)]

    def _work(self, calls, call):
        """Does the next operation of a call, or puts the call of a defined one ahead of it."""
        key, parts = call.next_operation()
        if key not in self._bodies:
            call.take_result(self._book.number((key[0], parts)))
        elif (key, parts) in self._known:
            call.take_result(self._known[(key, parts)])
        else:
            calls.append(Call(key, parts, self._bodies[key].steps))


class Call:
    """A defined operation on some terms, as far as it is worked out."""

    def __init__(self, key, parts, steps):
        self.key = key
        self.parts = parts
        self._steps = steps
        self._at = 0
        self._numbers = []

    def is_done(self):
        return self._at == len(self._steps)

    def result(self):
        return self._numbers[-1]

    def wants_part(self):
        """Whether the next step is one of the parts."""
        return self._steps[self._at][0] is None

    def take_part(self):
        self._numbers.append(self.parts[self._steps[self._at][1]])
        self._at += 1

    def next_operation(self):
        """The operation that is done next, and the terms that it is done on."""
        key, many = self._steps[self._at]
        return key, tuple(self._numbers[len(self._numbers) - many:])

    def take_result(self, number):
        many = self._steps[self._at][1]
        self._numbers = self._numbers[:len(self._numbers) - many]
        self._numbers.append(number)
        self._at += 1
