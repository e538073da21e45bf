"""In how many hours a program could be done at best, and where it loses hours."""

from twoslots.cells import hours_made, lives_by
from twoslots.chains import best_chain
from twoslots.errors import BadMany
from twoslots.names import is_number_below
from twoslots.namings import cells_beside
from twoslots.needed import lost_names, order_among, told_terms, wanted_with
from twoslots.plans import best_plan, fewest_hours
from twoslots.programs import Program
from twoslots.recells import instructions_of
from twoslots.sources import need_source
from twoslots.workedprograms import need_sound, numbers_by


class Outlook:
    """What a source needs from the begin, and from behind each hour of a program.

    held has for each of them the dict from the terms of the source that lie in cells to the least
    such cell, wanted the list of what is needed then, lost read names among it.
    """

    def __init__(self, source, program):
        need_source(source)
        worked = need_sound(program)
        self._source = source
        self.held = held_in_states(source, worked)
        self.wanted = [wanted_with(source, held) for held in self.held]
        # What is needed stays for many hours, so each order is made once.
        self._orders = {}

    def lost(self, hour):
        """The read names, ascending, that are lost behind an hour."""
        return lost_names(self._source, self.wanted[hour])

    def order(self, hour):
        """The order of what is needed behind an hour, where nothing is lost."""
        key = tuple(self.wanted[hour])
        if key not in self._orders:
            self._orders[key] = order_among(self._source, self.wanted[hour])
        return self._orders[key]

    def hope(self, hour):
        """The hours behind which all is done at best, None if something is lost."""
        return None if self.lost(hour) else hour + fewest_hours(self.order(hour))


def held_in_states(source, worked):
    """For each state of a sound program the dict from the source's terms that lie there to their least cells."""
    numbers = numbers_by(source, worked)
    many = len(source.worked().rows)
    rows = []
    for state in worked.states:
        held = {}
        for cell, value in state.items():
            number = numbers[value]
            if number < many:
                held[number] = min(cell, held.get(number, cell))
        rows.append(held)
    return rows


def hopes(source, program):
    outlook = Outlook(source, program)
    return [outlook.hope(hour) for hour in range(len(outlook.held))]


def lost_hours(source, program):
    outlook = Outlook(source, program)
    found = []
    for hour in range(len(outlook.held)):
        names = outlook.lost(hour)
        if names:
            found.append((hour, None, names[0]))
            return found
        many = outlook.hope(hour) - outlook.hope(max(0, hour - 1))
        if many > 0:
            found.append((hour, many, best_chain(outlook.order(hour))))
    return found


def go_on(source, program, many):
    outlook = Outlook(source, program)
    if not is_number_below(many, len(outlook.held)):
        raise BadMany(many)
    if outlook.lost(many):
        return None
    wanted = outlook.wanted[many]
    plan = best_plan(outlook.order(many))
    cells = cells_on(source, outlook.held[many], wanted, plan)
    rows = source.worked().rows
    rest = [instructions_of(rows, cells, [wanted[thing] for thing in hour]) for hour in plan]
    tells = [(name, cells[number]) for name, number in source.worked().told]
    return Program(program.reads(), program.hours()[:many] + rest, tells)


def cells_on(source, held, wanted, plan):
    """Where values lie if a plan of what is wanted goes on from what is held in cells."""
    made = {number: 0 for number in held}
    made.update(hours_made(wanted, plan))
    told = {number: True for number in told_terms(source)}
    return cells_beside(held, lives_by(source.worked().rows, made, told, len(plan)))
