"""The texts of sessions, there and back."""

from twoslots.errors import BadText
from twoslots.sessionreader import SessionReader
from twoslots.sessions import need_session, session_with
from twoslots.signs import fault_with
from twoslots.sources import Source


def write_session(session):
    need_session(session)
    lines = ["mark " + text for text in session.mark().texts()]
    lines.extend(["line " + text for text in session.now().texts()])
    for question, _, held in session.watched():
        words = [str(part) for part in question]
        lines.append(("hold " if held else "watch ") + " ".join(words))
    return "".join([line + "\n" for line in lines])


def read_session(text):
    reader = SessionReader()
    fault = fault_with(reader, text)
    if fault is not None:
        raise BadText(fault[0], fault[1])
    return session_with(Source(reader.now_lines()), Source(reader.mark_lines()), reader.questions())
