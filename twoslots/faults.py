"""The first faults of programs, and what sound ones mean."""

from twoslots.programs import need_program
from twoslots.worked import TermBook, row_told
from twoslots.workedprograms import WorkedProgram, need_sound


def first_fault(program):
    need_program(program)
    return WorkedProgram(program).fault


def is_sound(program):
    return first_fault(program) is None


def program_terms(program):
    worked = need_sound(program)
    book = TermBook()
    numbers = worked.numbers(book)
    return ([row_told(row) for row in book.rows], [(name, numbers[value]) for name, value in worked.told])
