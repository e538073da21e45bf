"""How many hours a source wants with some cells: programs, or layers of states that bar them."""

from twoslots.cells import Values
from twoslots.cellstates import Machine, Reached, is_within, way_to_done
from twoslots.errors import BadCount
from twoslots.names import is_list, is_number
from twoslots.namings import need_cells
from twoslots.programs import Program
from twoslots.sources import need_source
from twoslots.worked import is_read


def machine_for(source, cells):
    need_source(source)
    need_cells(cells)
    return Machine(source, cells)


def need_count(hours):
    if not is_number(hours):
        raise BadCount(hours)


def hours_within(source, cells):
    way = way_to_done(machine_for(source, cells))
    return None if way is None else len(way) - 1


def cell_hours(source):
    need_source(source)
    pairs = []
    # With a cell for each value no more hours are wanted than with more cells.
    for cells in range(len(Values(source).numbers) + 1):
        hours = hours_within(source, cells)
        if hours is not None and (not pairs or hours < pairs[-1][1]):
            pairs.append((cells, hours))
    return pairs


def text_within(source, cells, hours):
    machine = machine_for(source, cells)
    need_count(hours)
    way = way_to_done(machine)
    if way is None or len(way) - 1 > hours:
        return None
    return program_by(source, [machine.numbers_in(state) for state in way], hours)


def program_by(source, states, hours):
    """A program of so many hours that goes through some states, lists of values."""
    rows = source.worked().rows
    number_of = {row[1]: number for number, row in enumerate(rows) if is_read(row)}
    reads = [(name, at + 1) for at, name in enumerate(source.reads())]
    cells = {number_of[name]: cell for name, cell in reads}
    done = []
    for state in states[1:]:
        kept = {value: cells[value] for value in state if value in cells}
        behind = with_cells(kept, [value for value in state if value not in cells])
        done.append([(behind[value], rows[value][0], tuple([cells[part] for part in rows[value][1]]))
                     for value in state if value not in cells])
        cells = behind
    while len(done) < hours:
        done.append([])
    return Program(reads, done, [(name, cells[number]) for name, number in source.worked().told])


def with_cells(kept, values):
    """Where values lie, with some more values in the least cells that are free."""
    cells = dict(kept)
    taken = {cell: True for cell in list(kept.values())}
    cell = 1
    for value in values:
        while cell in taken:
            cell += 1
        cells[value] = cell
        cell += 1
    return cells


def layers(source, cells, hours):
    machine = machine_for(source, cells)
    need_count(hours)
    if not machine.can_begin():
        return []
    reached = Reached(machine)
    found = [reached.layer()]
    goes_on = True
    while len(found) <= hours and reached.done() is None:
        # Behind an hour by which there is no state more there is none ever.
        goes_on = goes_on and reached.go_on()
        found.append(reached.layer())
    if reached.done() is not None:
        return None
    return [[machine.numbers_in(state) for state in layer] for layer in found]


def is_layers(source, cells, hours, thing):
    machine = machine_for(source, cells)
    need_count(hours)
    if not is_list(thing):
        return False
    if not machine.can_begin():
        return len(thing) == 0
    if len(thing) != hours + 1 or not all([is_list(layer) for layer in thing]):
        return False
    found = []
    for layer in thing:
        found.append([machine.state_of(state) for state in layer])
        if None in found[-1]:
            return False
    return do_bar(machine, found)


def do_bar(machine, found):
    """Whether layers of states show that all that is told is not there behind the last one's hour."""
    if not any([is_within(machine.start, state) for state in found[0]]):
        return False
    for at in range(1, len(found)):
        if not are_covered(machine, found[at - 1], found[at]):
            return False
    return not any([machine.is_done(state) for state in found[-1]])


def are_covered(machine, layer, later):
    """Whether all states of a layer, and whatever comes behind them, lie within states of a later one."""
    asked = {}
    for state in layer:
        for one in [state] + machine.behind(state):
            if one not in asked:
                asked[one] = any([is_within(one, other) for other in later])
            if not asked[one]:
                return False
    return True
