"""The texts of sources, there and back, and their first wrong signs."""

from twoslots.errors import BadText
from twoslots.signs import fault_with, gone_on_with
from twoslots.sourcereader import SourceReader
from twoslots.sources import Source, need_source


def source_text(source):
    need_source(source)
    return "".join([text + "\n" for text in source.texts()])


def read_source(text):
    reader = SourceReader()
    fault = fault_with(reader, text)
    if fault is not None:
        raise BadText(fault[0], fault[1])
    return Source(reader.lines())


def source_fault(text):
    return fault_with(SourceReader(), text)


def goes_on(text):
    return gone_on_with(SourceReader(), text)
