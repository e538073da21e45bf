"""Whether two sources mean the same, and papers that they do not."""

from twoslots.names import is_list, is_number_below
from twoslots.sources import need_source
from twoslots.worked import is_read, joint_terms


def mean_same(one, other):
    return unlike_paper(one, other) is None


def unlike_paper(one, other):
    need_source(one)
    need_source(other)
    names = unlike_reads(one, other)
    if names:
        return ("reads", names[0])
    place = first_unlike_tell(one.tells(), other.tells())
    if place is not None:
        return ("told", place)
    rows, told, others = joint_terms(one.worked(), other.worked())
    for at, pair in enumerate(told):
        if pair[1] != others[at][1]:
            return ("path", at, first_path(rows, pair[1], others[at][1]))
    return None


def is_unlike_paper(one, other, thing):
    need_source(one)
    need_source(other)
    if not is_list(thing):
        return False
    if len(thing) == 2 and thing[0] == "reads":
        return thing[1] in unlike_reads(one, other)
    if len(thing) == 2 and thing[0] == "told":
        return is_unlike_tell(one.tells(), other.tells(), thing[1])
    if len(thing) == 3 and thing[0] == "path":
        return is_unlike_path(one, other, thing[1], thing[2])
    return False


def unlike_reads(one, other):
    """The names, ascending, that just one of two sources reads."""
    mine = {name: True for name in one.reads()}
    others = {name: True for name in other.reads()}
    lone = [name for name in mine if name not in others]
    return sorted(lone + [name for name in others if name not in mine])


def first_unlike_tell(names, others):
    for place in range(max(len(names), len(others))):
        if is_unlike_tell(names, others, place):
            return place
    return None


def is_unlike_tell(names, others, place):
    """Whether a thing is a place at which names are unlike, or just one list has a name."""
    if not is_number_below(place, max(len(names), len(others))):
        return False
    return place >= min(len(names), len(others)) or names[place] != others[place]


def have_one_operation(row, other):
    if is_read(row) or is_read(other):
        return False
    return row[0] == other[0] and len(row[1]) == len(other[1])


def first_path(rows, number, other):
    """The first way down two unlike terms that leads to unlike reads or operations."""
    path = []
    while have_one_operation(rows[number], rows[other]):
        mine = rows[number][1]
        others = rows[other][1]
        # Below parts that are alike nothing is unlike.
        at = [index for index, part in enumerate(mine) if part != others[index]][0]
        path.append(at)
        number = mine[at]
        other = others[at]
    return path


def is_unlike_path(one, other, place, path):
    rows, told, others = joint_terms(one.worked(), other.worked())
    if not is_number_below(place, min(len(told), len(others))) or not is_list(path):
        return False
    number = told[place][1]
    against = others[place][1]
    for step in path:
        if not have_one_operation(rows[number], rows[against]):
            return False
        if not is_number_below(step, len(rows[number][1])):
            return False
        number = rows[number][1][step]
        against = rows[against][1][step]
    return number != against and not have_one_operation(rows[number], rows[against])
