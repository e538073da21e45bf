"""Changes of one thing by which a program means the same as a source."""

from twoslots.programs import Program, need_program
from twoslots.sources import need_source
from twoslots.worked import is_read
from twoslots.workedprograms import WorkedProgram, told_by_numbers


def repairs(source, program):
    need_source(source)
    need_program(program)
    if does_mean(source, program):
        return []
    return [change for change in changes_of(source, program) if does_mean(source, changed(program, change))]


def does_mean(source, program):
    """Whether any program is sound and means the same as a source."""
    worked = WorkedProgram(program)
    return worked.fault is None and told_by_numbers(source, worked) == source.worked().told


def changes_of(source, program):
    """All changes of one thing that can be made, in their order."""
    cells = cells_in(program)
    found = []
    taken = [cell for _, cell in program.reads()]
    for at in range(len(taken)):
        found.extend(ways_to_change((0, at + 1, "cell"), [cell for cell in cells if cell not in taken]))
    for at, hour in enumerate(program.hours()):
        for slot, instruction in enumerate(hour):
            found.extend(changes_at(at + 1, slot + 1, instruction, cells, operations_in(source)))
    last = len(program.hours()) + 1
    for at, (_, cell) in enumerate(program.tells()):
        found.extend(ways_to_change((last, at + 1, "cell"), others_than(cell, cells)))
    return found


def changes_at(hour, slot, instruction, cells, operations):
    """The changes of one instruction."""
    cell, operation, read = instruction
    found = ways_to_change((hour, slot, "cell"), others_than(cell, cells))
    alike = others_than(operation, operations.get(len(read), []))
    found.extend(ways_to_change((hour, slot, "operation"), alike))
    for at, part in enumerate(read):
        found.extend(ways_to_change((hour, slot, at + 1), others_than(part, cells)))
    return found


def ways_to_change(place, values):
    return [place + (value,) for value in values]


def others_than(one, values):
    return [value for value in values if value != one]


def cells_in(program):
    """The cells that stand in a program, ascending."""
    found = {cell: True for _, cell in program.reads() + program.tells()}
    for hour in program.hours():
        for cell, _, cells in hour:
            found[cell] = True
            for part in cells:
                found[part] = True
    return sorted(found)


def operations_in(source):
    """From how many parts they have to the operations, ascending, that stand in a source."""
    found = {}
    for row in source.worked().rows:
        if not is_read(row):
            found.setdefault(len(row[1]), {})[row[0]] = True
    return {many: sorted(words) for many, words in found.items()}


def changed(program, change):
    """The program with one thing changed."""
    hour, slot, part, value = change
    reads = program.reads()
    hours = program.hours()
    tells = program.tells()
    if hour == 0:
        reads[slot - 1] = (reads[slot - 1][0], value)
    elif hour > len(hours):
        tells[slot - 1] = (tells[slot - 1][0], value)
    else:
        hours[hour - 1][slot - 1] = changed_instruction(hours[hour - 1][slot - 1], part, value)
    return Program(reads, hours, tells)


def changed_instruction(instruction, part, value):
    cell, operation, cells = instruction
    if part == "cell":
        return (value, operation, cells)
    if part == "operation":
        return (cell, value, cells)
    return (cell, operation, cells[:part - 1] + (value,) + cells[part:])
