"""[74], [83], [87], [96]: what is asked at the limits of papers, pieces, sources told back and sessions."""

import math
import random
import unittest

from twoslots.behind import alike_everywhere, parting_source, put_behind
from twoslots.compiled import compiled
from twoslots.definitions import Definitions, expanded, ring_of_uses
from twoslots.errors import SlotError
from twoslots.needed import fewest_makings
from twoslots.papers import paper_text, papers_fault, read_paper
from twoslots.plaintexts import plain_source
from twoslots.programs import Program
from twoslots.programtexts import program_text
from twoslots.repeating import again, alike_again, growing_ring, is_growing_ring, settles
from twoslots.sessions import Session
from twoslots.sessiontexts import read_session, write_session
from twoslots.sources import Source
from twoslots.sourcetexts import source_text
from twoslots.terms import term_rows
from twoslots.toldback import source_of_program, source_of_teller

from tests.pieceoracles import given_behind, gives, turning_text
from tests.samples import random_expr, source_of
from tests.test_changelimits import great_program, great_source
from tests.test_toldback import teller_of

OPERATIONS = [("f", 1), ("g", 2), ("h", 2), ("k", 0)]


def text_of_forty_lines(seed):
    rng = random.Random(seed)
    known = [f"r{at}" for at in range(6)]
    lines = [("read", name) for name in known]
    for at in range(26):
        lines.append(("give", f"x{at}", random_expr(rng, known[-10:], 4, OPERATIONS)))
        known.append(f"x{at}")
    return Source(lines + [("tell", name) for name in known[-8:]])


class Papers(unittest.TestCase):
    def test_sources_of_forty_lines(self):
        for seed in (791, 792):
            source = text_of_forty_lines(seed)
            self.assertEqual(len(source.lines()), 40)
            made = compiled(source)
            paper = paper_text(source, made.chain())
            self.assertEqual(read_paper(paper)[0], made.hours())
            self.assertIsNone(papers_fault(source_text(source), program_text(made.program()), paper))
            rows = paper.split("\n")
            worse = "\n".join(["hours 999999"] + rows[1:])
            self.assertEqual(papers_fault(source_text(source), program_text(made.program()), worse), ("paper", 1, 1, "hours"))


def source_of_sixty(seed, names=20, made=60):
    """A source of so many needed terms that gives its names anew."""
    rng = random.Random(seed)
    reads = [f"r{at}" for at in range(names)]
    known = list(reads)
    lines = [("read", name) for name in reads]
    for at in range(made):
        lines.append(("give", f"x{at}", (rng.choice("fgh") + str(at), rng.choice(known[-25:]), rng.choice(known[-25:]))))
        known.append(f"x{at}")
    lines += [("give", name, known[-1 - at]) for at, name in enumerate(reads)]
    lines += [("give", f"y{at}", known[-1 - at]) for at in range(made)]
    return Source(lines + [("tell", name) for name in reads] + [("tell", f"y{at}") for at in range(made)])


class Pieces(unittest.TestCase):
    def test_sixty_needed_terms(self):
        one, other = source_of_sixty(793), source_of_sixty(794)
        self.assertEqual((fewest_makings(one), fewest_makings(other)), (60, 60))
        done = put_behind(one, other)
        self.assertEqual(done.tells(), other.tells())
        self.assertLessEqual(fewest_makings(done), 120)
        self.assertTrue(alike_everywhere(one, plain_source(one)))
        self.assertFalse(alike_everywhere(one, other))
        self.assertEqual(len(parting_source(one, other).tells()), 1)
        self.assertIsNone(settles(one))
        self.assertTrue(is_growing_ring(one, growing_ring(one)))

    def test_thirty_times(self):
        source = turning_text("abcdef", {"a": ("f", "b", "c"), "b": ("g", "d"), "c": "e", "d": "a", "e": ("h", "c", "c", "f")})
        given = {name: ("read", name) for name in "abcde"}
        for many in range(31):
            done = again(source, many)
            if many < 8:
                self.assertEqual(gives(done), given)
                given = given_behind(given, gives(source))
        self.assertLessEqual(len(term_rows(done)), 200)
        self.assertEqual(done.tells(), list("abcde"))
        self.assertIs(alike_again(source, 10 ** 18, 10 ** 18 - 1), False)
        self.assertIs(alike_again(source, 10 ** 18, 10 ** 18), True)

    def test_many_times_where_it_settles(self):
        sizes = [2, 3, 5, 7, 11, 13]
        rings = [[f"r{size}x{at}" for at in range(size)] for size in sizes]
        given = {name: ring[(at + 1) % len(ring)] for ring in rings for at, name in enumerate(ring)}
        names = list(given)
        for at in range(20):
            given[f"q{at}"] = ("f", f"q{at - 1}" if at else "r13x4", f"r7x{at % 7}")
        source = turning_text(names + [f"q{at}" for at in range(20)], given)
        self.assertEqual(settles(source), (20, math.prod(sizes)))
        self.assertIsNone(growing_ring(source))
        many = 10 ** 18
        done = gives(again(source, many))
        for ring in rings:
            for at, name in enumerate(ring):
                self.assertEqual(done[name], ("read", ring[(at + many) % len(ring)]))
        less = 20 + (many - 20) % math.prod(sizes)
        self.assertEqual(done, gives(again(source, less)))
        self.assertEqual(done, gives(again(source, less + math.prod(sizes))))
        self.assertIs(alike_again(source, many, less), True)
        self.assertIs(alike_again(source, many, less + 1), False)
        self.assertIs(alike_again(source, 19, 19 + math.prod(sizes)), False)

    def test_twelve_definitions_of_exprs_twenty_deep(self):
        rows = []
        for at in range(12):
            expr = "p"
            for depth in range(20):
                expr = (f"o{at}n{depth}", expr, "q") if depth != 10 or at == 11 else (f"d{at + 1}", expr, "q")
            rows.append((f"d{at}", ["p", "q"], expr))
        definitions = Definitions(rows)
        source = source_of("read a / read b / x = d0(a, b) / y = d0(b, x) / z = d0(d0(y, a), b) / w = d5(z, z) / tell w")
        self.assertIsNone(ring_of_uses(source, definitions))
        done = expanded(source, definitions)
        self.assertEqual(fewest_makings(done), 4 * (12 * 19 + 1) + 7 * 19 + 1)
        rows[11] = ("d11", ["p", "q"], ("d7", "q", "p"))
        self.assertEqual(ring_of_uses(source, Definitions(rows)), [(f"d{at}", 2) for at in (10, 11, 7, 8, 9)])
        self.assertIsNone(expanded(source, Definitions(rows)))

    def test_a_thousand_terms_of_doubled_calls(self):
        rows = [("d0", ["p"], ("f", "p"))] + [(f"d{at}", ["p"], (f"d{at - 1}", (f"d{at - 1}", "p"))) for at in range(1, 10)]
        rows += [("id0", ["p"], "p"), ("id1", ["p"], "p")]
        done = expanded(source_of("read a / x = d9(a) / y = d9(d8(a)) / tell x / tell y"), Definitions(rows))
        self.assertEqual(fewest_makings(done), 768)
        rows = [("n0", ["p"], "p")]
        for at in range(1, 12):
            expr = "p"
            for _ in range(20):
                expr = (f"n{at - 1}", expr)
            rows.append((f"n{at}", ["p"], expr))
        done = expanded(source_of("read a / x = f(n11(a)) / tell x"), Definitions(rows))
        self.assertEqual(fewest_makings(done), 1)

    def test_rings_among_twelve(self):
        rows = [(f"d{at}", ["p"], ("f",) + tuple((f"d{other}", "p") for other in range(12) if other > at)) for at in range(12)]
        source = source_of("read a / x = d0(a) / tell x")
        self.assertEqual(fewest_makings(expanded(source, Definitions(rows))), 12)
        rows[11] = ("d11", ["p"], ("d0", "p"))
        self.assertEqual(ring_of_uses(source, Definitions(rows)), [("d0", 1), ("d11", 1)])


class ToldBack(unittest.TestCase):
    def test_sources_of_two_hundred_lines(self):
        rng = random.Random(795)
        known = [f"r{at}" for at in range(20)]
        lines = [("read", name) for name in known]
        for at in range(160):
            lines.append(("give", f"x{at}", random_expr(rng, known[-12:], 3, OPERATIONS)))
            known.append(f"x{at}")
        source = Source(lines + [("tell", name) for name in known[-20:]])
        self.assertEqual(len(source.lines()), 200)
        self.assertEqual(source_of_teller(teller_of(source), source.reads()), plain_source(source))
        self.assertEqual(source_of_program(compiled(source).program()), plain_source(source))

    def test_programs_of_two_hundred_hours(self):
        source = great_source(796)
        program = great_program(797, source)
        self.assertEqual(source_of_program(program), plain_source(source))
        longer = Program(program.reads(), program.hours() + [[]] * 100, program.tells())
        self.assertEqual(source_of_program(longer), plain_source(source))


class Sessions(unittest.TestCase):
    QUESTIONS = [("hours",), ("in", 999999999), ("needed",), ("same",), ("new",), ("rest",), ("told", "x9"), ("in", 3)]

    def session(self, seed):
        """Twenty lines of forty needed terms, eight watched questions."""
        rng = random.Random(seed)
        session = Session()
        known = ["a", "b", "c", "d"]
        lines = [("read", name) for name in known]
        for at in range(14):
            one, two, three = rng.sample(known[-6:], 3)
            lines.append(("give", f"x{at}", (f"f{at}", (f"g{at}", one, two), three) if at else ("f", "a")))
            known.append(f"x{at}")
        lines += [("tell", "x13"), ("tell", "x9")]
        for at, line in enumerate(lines):
            session.do(("put", at, line))
        session.do(("mark",))
        for at, question in enumerate(self.QUESTIONS):
            session.do(("hold" if at % 3 == 0 else "watch", question))
        return session

    def test_twenty_lines_eight_questions_sixty_deeds(self):
        rng = random.Random(798)
        session = self.session(799)
        self.assertEqual(len(session.now().lines()), 20)
        refused = 0
        while session.count() < 60 and refused < 400:
            deed = rng.choice([("turn", rng.randrange(19)), ("take", rng.randrange(20)),
                               ("change", rng.randrange(4, 17), ("give", f"x{rng.randrange(12)}", (rng.choice("fg"), "a", rng.choice("bcd"))))])
            try:
                session.would(deed)
                session.do(deed)
            except SlotError:
                refused += 1
        self.assertGreater(session.count(), 30)
        self.assertTrue(session.answer(("in", 999999999)))
        self.assertEqual([place for place, _ in session.costs()], [at for at, line in enumerate(session.now().lines()) if line[0] == "tell"])
        for at in session.can_take():
            session.copy().do(("take", at))
        text = write_session(session)
        self.assertEqual(read_session(text), session)
        for number in range(session.count() + 1):
            self.assertEqual(session.at(number).count(), number)
        while session.undo() is not None:
            pass
        self.assertEqual(session, Session())

    def test_six_trials_within_one_another(self):
        session = self.session(800)
        kept = write_session(session)
        seen = []

        def work(one, depth=1):
            one.do(("free", self.QUESTIONS[depth]))
            seen.append(len(one.watched()))
            if depth < 6:
                one.trial(lambda inner: work(inner, depth + 1))
            one.undo()
        session.trial(work)
        self.assertEqual(seen, [7, 6, 5, 4, 3, 2])
        self.assertEqual(write_session(session), kept)


if __name__ == "__main__":
    unittest.main()
