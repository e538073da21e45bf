"""What sources tell by boxes, and boxes by which two sources tell what is unlike."""

from twoslots.boxes import is_box, need_box, values_of
from twoslots.sources import need_source
from twoslots.worked import is_read, joint_terms, marks_under


def values_told(source, box):
    need_source(source)
    need_box(box)
    return told_by(source, box)


def told_by(source, box):
    values = values_of(source.worked().rows, box)
    return [(name, values[number]) for name, number in source.worked().told]


def parting_box(one, other):
    need_source(one)
    need_source(other)
    if one.tells() != other.tells():
        return ([], [], 0)
    rows, told, others = joint_terms(one.worked(), other.worked())
    for at, pair in enumerate(told):
        if pair[1] != others[at][1]:
            return box_of_terms(rows, [pair[1], others[at][1]])
    return None


def is_parting_box(one, other, thing):
    need_source(one)
    need_source(other)
    return is_box(thing) and told_by(one, thing) != told_by(other, thing)


def box_of_terms(rows, numbers):
    """A box by which each term that stands in some terms has its own number as its value."""
    marks = marks_under(rows, numbers, {})
    made = []
    starts = []
    for number, row in enumerate(rows):
        if marks[number] and is_read(row):
            starts.append((row[1], number))
        elif marks[number]:
            made.append((row[0], list(row[1]), number))
    return (made, starts, len(rows))
