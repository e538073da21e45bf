"""Paper texts, and programs judged by three texts."""

from twoslots.chains import chain_hours
from twoslots.errors import BadText
from twoslots.faults import first_fault
from twoslots.judging import first_wrong_pair
from twoslots.needed import needed_terms, order_of
from twoslots.paperreader import PaperReader
from twoslots.programs import SLOTS
from twoslots.programtexts import program_fault, read_program
from twoslots.signs import fault_with
from twoslots.sourcetexts import read_source, source_fault

# In the line of a block its first place begins at this sign.
FIRST_SIGN = 7


def paper_text(source, chain):
    hours = chain_hours(order_of(source), chain)
    firsts = first_places(source)
    words = [place_text(firsts[number]) for number in needed_terms(source)]
    lines = [f"hours {hours}"]
    for block in chain:
        lines.append("block " + " ".join([words[thing] for thing in block]))
    return "".join([line + "\n" for line in lines])


def place_text(place):
    return f"{place[0]}.{place[1]}"


def first_places(source):
    """From each term that stands in an expr to the pair (line, sign) of its first place."""
    firsts = {}
    for line, first, _, _, number in source.worked().met:
        firsts[number] = min((line, first), firsts.get(number, (line, first)))
    return firsts


def read_paper(text):
    reader = PaperReader()
    fault = fault_of_paper(reader, text)
    if fault is not None:
        raise BadText(fault[0], fault[1])
    return (reader.hours(), reader.blocks())


def fault_of_paper(reader, text):
    """As fault_with, but a paper text has a line at least."""
    return (1, 1) if text == "" else fault_with(reader, text)


def papers_fault(source_text, program_text, paper_text):
    fault = fault_of_forms(source_text, program_text, paper_text)
    if fault is not None:
        return fault
    source = read_source(source_text)
    program = read_program(program_text)
    fault = fault_of_program(source, program)
    if fault is not None:
        return fault
    hours, blocks = read_paper(paper_text)
    fault = fault_of_blocks(source, blocks)
    if fault is not None:
        return fault
    if hours != sum([(len(block) + 1) // SLOTS for block in blocks]):
        return ("paper", 1, 1, "hours")
    if hours < len(program.hours()):
        return ("program", len(program.reads()) + hours + 1, 1, "long")
    return None


def fault_of_forms(source_text, program_text, paper_text):
    faults = (("source", source_fault(source_text)), ("program", program_fault(program_text)),
              ("paper", fault_of_paper(PaperReader(), paper_text)))
    for which, fault in faults:
        if fault is not None:
            return (which, fault[0], fault[1], "form")
    return None


def fault_of_program(source, program):
    """What is wrong first with what a program does, None if it means the same as the source."""
    tells_from = len(program.reads()) + len(program.hours()) + 1
    fault = first_fault(program)
    if fault is not None and fault[0] > len(program.hours()):
        return ("program", tells_from + fault[1] - 1, 1, "fault")
    if fault is not None:
        return ("program", len(program.reads()) + fault[0], 1, "fault")
    index = first_wrong_pair(source, program)
    return None if index is None else ("program", tells_from + index, 1, "tells")


class Shown:
    """What the places of a paper show of a source, gone through one by one.

    Lots of things are kept as integers with a bit for each thing.
    """

    def __init__(self, source):
        thing_of = {number: thing for thing, number in enumerate(needed_terms(source))}
        self._thing_at = {(row[0], row[1]): thing_of[row[4]] for row in source.worked().met if row[4] in thing_of}
        self._ahead = order_of(source).ahead_bits()
        self._stood = 0
        self._last = 0
        self._block = 0

    def begin_block(self):
        self._last = self._block
        self._block = 0

    def wrong(self, place):
        """What is wrong with the next place, None if nothing is; then its term stands in the block."""
        if place not in self._thing_at:
            return "place"
        thing = self._thing_at[place]
        if self._stood & (1 << thing):
            return "twice"
        if self._ahead[thing] & self._last != self._last:
            return "apart"
        self._stood = self._stood | (1 << thing)
        self._block = self._block | (1 << thing)
        return None


def fault_of_blocks(source, blocks):
    """What is wrong first with the places of a paper, line by line."""
    shown = Shown(source)
    for at, block in enumerate(blocks):
        shown.begin_block()
        sign = FIRST_SIGN
        for place in block:
            why = shown.wrong(place)
            if why is not None:
                return ("paper", at + 2, sign, why)
            sign += len(place_text(place)) + 1
        if len(block) % SLOTS == 0:
            return ("paper", at + 2, 1, "even")
    return None
