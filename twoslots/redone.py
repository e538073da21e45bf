"""What is to be made again where some starts are changed."""

from twoslots.chains import best_chain
from twoslots.errors import BadSome
from twoslots.names import is_list, is_name
from twoslots.needed import needed_terms, order_among
from twoslots.plans import best_plan
from twoslots.sources import need_source
from twoslots.worked import is_read, parts_of


def need_some(source, some):
    if not is_list(some):
        raise BadSome(0)
    left = {name: True for name in source.reads()}
    for index, thing in enumerate(some):
        if not is_name(thing) or thing not in left:
            raise BadSome(index)
        del left[thing]


def redone(source, some):
    need_source(source)
    need_some(source, some)
    marks = []
    for row in source.worked().rows:
        marks.append(row[1] in some if is_read(row) else any([marks[part] for part in parts_of(row)]))
    return [number for number in needed_terms(source) if marks[number]]


def redo_plan(source, some):
    return best_plan(order_among(source, redone(source, some)))


def redo_chain(source, some):
    return best_chain(order_among(source, redone(source, some)))
