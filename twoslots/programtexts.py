"""The texts of programs, there and back, and their first wrong signs."""

from twoslots.errors import BadText
from twoslots.programreader import ProgramReader
from twoslots.programs import Program, need_program
from twoslots.signs import fault_with, gone_on_with


def program_text(program):
    need_program(program)
    lines = [f"read {name} {cell}" for name, cell in program.reads()]
    lines.extend([hour_text(hour) for hour in program.hours()])
    lines.extend([f"tell {name} {cell}" for name, cell in program.tells()])
    return "".join([line + "\n" for line in lines])


def hour_text(hour):
    if not hour:
        return "-"
    return " | ".join([instruction_text(instruction) for instruction in hour])


def instruction_text(instruction):
    cell, operation, cells = instruction
    return f"{cell} = {operation}(" + ", ".join([str(part) for part in cells]) + ")"


def read_program(text):
    reader = ProgramReader()
    fault = fault_with(reader, text)
    if fault is not None:
        raise BadText(fault[0], fault[1])
    return Program(reader.reads(), reader.hours(), reader.tells())


def program_fault(text):
    return fault_with(ProgramReader(), text)


def program_goes_on(text):
    return gone_on_with(ProgramReader(), text)
