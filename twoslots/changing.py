"""What a changed source costs, and what of a program or a plan it spares."""

from twoslots.begun import hours_left
from twoslots.hoping import held_in_states
from twoslots.needed import needed_terms, order_among, order_of, wanted_with
from twoslots.planfaults import need_plan
from twoslots.plans import fewest_hours
from twoslots.sources import need_source
from twoslots.worked import TermBook, numbers_in
from twoslots.workedprograms import need_sound, numbers_by


def numbers_there(source, other):
    """From each term of a source that another one has to its number there."""
    book = TermBook()
    mine = numbers_in(book, source.worked().rows)
    number_of = {number: at for at, number in enumerate(numbers_in(book, other.worked().rows))}
    return {at: number_of[number] for at, number in enumerate(mine) if number in number_of}


def new_terms(source, other):
    need_source(source)
    need_source(other)
    there = numbers_there(source, other)
    shared = {there[number]: True for number in needed_terms(source) if number in there}
    return [number for number in needed_terms(other) if number not in shared]


def change_hours(source, other):
    return fewest_hours(order_among(other, new_terms(source, other)))


def wasted(program, other):
    worked = need_sound(program)
    need_source(other)
    numbers = numbers_by(other, worked)
    made = {numbers[value]: True for values in worked.made for value in values}
    return [number for number in wanted_with(other, held_in_states(other, worked)[-1]) if number in made]


def stays_best(source, other, plan):
    need_source(source)
    need_source(other)
    need_plan(order_of(source), plan)
    thing_of = things_there(source, other)
    order = order_of(other)
    begun = []
    for many, hour in enumerate(plan):
        rest = sorted([thing_of[thing] for thing in hour if thing in thing_of])
        if rest:
            begun.append(rest)
        if len(begun) + hours_left(order, begun) > fewest_hours(order):
            return many
    return len(plan)


def things_there(source, other):
    """From each thing of a source that another one needs, too, to its thing there."""
    there = numbers_there(source, other)
    thing_of = {number: thing for thing, number in enumerate(needed_terms(other))}
    found = {}
    for thing, number in enumerate(needed_terms(source)):
        if there.get(number) in thing_of:
            found[thing] = thing_of[there[number]]
    return found
