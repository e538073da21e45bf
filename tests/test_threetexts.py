"""[73]: programs judged by three texts."""

import random
import unittest

from twoslots.chains import best_chain
from twoslots.compiled import compiled
from twoslots.needed import order_of
from twoslots.papers import paper_text, papers_fault
from twoslots.places import places
from twoslots.programs import Program
from twoslots.programtexts import program_fault, program_text, read_program
from twoslots.sources import Source
from twoslots.sourcetexts import read_source, source_fault, source_text

from tests.hopeoracles import needed_by, rich_sources, sources_and_programs
from tests.programsamples import P, fault_by_hand, random_programs, told_terms_of
from tests.samples import NO_STRINGS, P_TEXT, T_TEXT, random_sources, source_of, terms_within, written
from tests.test_papers import T_PAPER, blocks_by_hand
from tests.test_papers import fault_by_hand as paper_fault

T = read_source(T_TEXT)


def terms_at(source):
    """From each pair (line, sign) at which an expr begins to its term as nested tuples."""
    found = {}
    for at, line in enumerate(source.lines(), 1):
        meant = written(Source(source.lines()[:at - 1]))[1]

        def term_of(expr):
            return meant[expr] if isinstance(expr, str) else (expr[0],) + tuple(term_of(part) for part in expr[1:])

        for row in places(source) if line[0] == "give" else []:
            if row[0] == at:
                found[row[:2]] = term_of(row[3])
    return found


def judged_by_hand(texts):
    """The words of [73], one behind the other."""
    readers = [("source", source_fault), ("program", program_fault), ("paper", paper_fault)]
    for (which, fault_of), text in zip(readers, texts):
        fault = fault_of(text) if isinstance(text, str) else (0, 0)
        if fault is not None:
            return (which,) + fault + ("form",)
    source, program = read_source(texts[0]), read_program(texts[1])
    reads, hours = len(program.reads()), len(program.hours())
    fault = fault_by_hand(program)
    if fault is not None:
        line = reads + fault[0] if fault[0] <= hours else reads + hours + fault[1]
        return ("program", line, 1, "fault")
    told, wanted = told_terms_of(program), written(source)[2]
    for at in range(max(len(told), len(wanted))):
        if told[at:at + 1] != wanted[at:at + 1]:
            return ("program", reads + hours + at + 1, 1, "tells")
    return paper_by_hand(source, texts[2], reads, hours)


def paper_by_hand(source, text, reads, hours):
    terms, needed, stood, ahead, total = terms_at(source), needed_by(source), [], [], 0
    for line, words in enumerate(text.split("\n")[1:-1], 2):
        block = []
        sign = 7
        for word in words.split(" ")[1:]:
            term = terms.get(tuple(map(int, word.split("."))))
            if term is None or term not in needed:
                return ("paper", line, sign, "place")
            if term in stood:
                return ("paper", line, sign, "twice")
            if any(one == term or one not in terms_within(term) for one in ahead):
                return ("paper", line, sign, "apart")
            stood.append(term)
            block.append(term)
            sign += len(word) + 1
        if len(block) % 2 == 0:
            return ("paper", line, 1, "even")
        ahead = block
        total += (len(block) + 1) // 2
    if int(text.split("\n")[0][6:]) != total:
        return ("paper", 1, 1, "hours")
    return ("program", reads + total + 1, 1, "long") if hours > total else None


class ThreeTexts(unittest.TestCase):
    def check(self, *texts):
        told = papers_fault(*texts)
        self.assertEqual(told, judged_by_hand(texts))
        return told

    def test_the_example(self):
        self.assertIsNone(papers_fault(T_TEXT, P_TEXT, T_PAPER))
        self.assertEqual(papers_fault(T_TEXT, P_TEXT, "hours 2\nblock 3.5 4.5 5.5\n"), ("program", 5, 1, "long"))

    def test_what_is_compiled(self):
        for source in rich_sources(711, 60) + random_sources(712, 30):
            made = compiled(source)
            texts = (source_text(source), program_text(made.program()), paper_text(source, made.chain()))
            self.assertIsNone(self.check(*texts))

    def test_forms_in_order(self):
        wrong = "x"
        self.assertEqual(papers_fault(wrong, wrong, wrong), ("source", 1, 2, "form"))
        self.assertEqual(papers_fault(T_TEXT, wrong, wrong), ("program", 1, 1, "form"))
        self.assertEqual(papers_fault(T_TEXT, P_TEXT, wrong), ("paper", 1, 1, "form"))
        self.assertEqual(papers_fault(T_TEXT, P_TEXT, ""), ("paper", 1, 1, "form"))
        self.assertEqual(papers_fault(T_TEXT, P_TEXT.replace("g(3, 3)", "g(9, 3)"), wrong), ("paper", 1, 1, "form"))
        for thing in NO_STRINGS + [T, P]:
            self.assertEqual(papers_fault(thing, thing, thing), ("source", 0, 0, "form"))
            self.assertEqual(papers_fault(T_TEXT, thing, thing), ("program", 0, 0, "form"))
            self.assertEqual(papers_fault(T_TEXT, P_TEXT, thing), ("paper", 0, 0, "form"))
        self.assertIsNone(papers_fault("", "", "hours 0\n"))

    def test_faults_of_the_program(self):
        for old, new, line in [("g(3, 3)", "g(3, 9)", 4), ("tell z 4", "tell z 9", 6), ("tell x 3", "tell x 9", 7),
                               ("3 = f(1, 2)", "3 = f(1, 2) | 3 = f(2, 1)", 3), ("h(4, 3)", "h(9, 3)", 5), ("f(1, 2)", "f(1, 9)", 3)]:
            self.assertEqual(self.check(T_TEXT, P_TEXT.replace(old, new), "hours 9\n"), ("program", line, 1, "fault"))

    def test_programs_that_are_not_sound(self):
        faults = 0
        for program in random_programs(717, 120, right=False):
            told = self.check(T_TEXT, program_text(program), T_PAPER)
            faults += told is not None and told[3] == "fault"
        self.assertGreater(faults, 40)

    def test_tells(self):
        for old, new, line in [("tell z 4", "tell z 3", 6), ("tell x 3\n", "", 7), ("tell x 3\n", "tell x 3\ntell y 3\n", 8),
                               ("tell x 3", "tell y 3", 7), ("f(1, 2)", "f(2, 1)", 6), ("tell z 4\ntell x 3\n", "", 6)]:
            self.assertEqual(self.check(T_TEXT, P_TEXT.replace(old, new), "hours 9\n"), ("program", line, 1, "tells"))

    def test_places_of_the_paper(self):
        source = source_of("read a / read b / w = k(a) / u = f(a, b) / v = g(a) / z = h(u, v) / tell z / y = z / w = u")
        program = compiled(source).program()
        texts = (source_text(source), program_text(program))
        right = "hours 2\nblock 4.5\nblock 6.5\n"
        self.assertIsNone(self.check(*texts, right))
        self.assertIsNone(self.check(*texts, "hours 2\nblock 6.7\nblock 8.5\n"))
        self.assertIsNone(self.check(*texts, "hours 2\nblock 9.5\nblock 8.5\n"))
        for paper, fault in [("hours 2\nblock 4.5\nblock 3.5\n", (3, 7, "place")), ("hours 2\nblock 4.7\nblock 6.5\n", (2, 7, "place")),
                             ("hours 2\nblock 4.6\n", (2, 7, "place")), ("hours 2\nblock 1.6\n", (2, 7, "place")),
                             ("hours 2\nblock 99.1\n", (2, 7, "place")), ("hours 2\nblock 4.5 5.5 1.1\n", (2, 15, "place")),
                             ("hours 2\nblock 4.5 6.7\n", (2, 11, "twice")), ("hours 2\nblock 4.5\nblock 6.5\nblock 9.5\n", (4, 7, "twice")),
                             ("hours 2\nblock 4.5\nblock 5.5\n", (3, 7, "apart")), ("hours 2\nblock 6.5\nblock 4.5\n", (3, 7, "apart")),
                             ("hours 2\nblock 4.5\nblock 6.5 5.5 3.5\n", (3, 11, "apart")), ("hours 2\nblock 4.5 5.5\nblock 6.5\n", (2, 1, "even")),
                             ("hours 2\nblock 4.5 5.5\nblock 3.5\n", (2, 1, "even")), ("hours 3\nblock 4.5\nblock 6.5\n", (1, 1, "hours")),
                             ("hours 0\nblock 4.5\nblock 6.5\n", (1, 1, "hours"))]:
            self.assertEqual(self.check(*texts, paper), ("paper",) + fault)
        self.assertEqual(self.check(*texts, "hours 1\nblock 6.5\n"), ("program", 4, 1, "long"))
        self.assertEqual(self.check(*texts, "hours 0\n"), ("program", 3, 1, "long"))
        self.assertEqual(self.check(*texts, "hours 2\nblock 4.5 5.5 6.5\n"), None)

    def test_papers_with_one_thing_otherwise(self):
        rng = random.Random(713)
        kinds = {}
        for source in rich_sources(714, 120):
            made = compiled(source)
            text, program = source_text(source), program_text(made.program())
            paper = paper_text(source, made.chain())
            spots = [f"{row[0]}.{row[1]}" for row in places(source)]
            for _ in range(8):
                rows = paper.split("\n")[:-1]
                at = rng.randrange(len(rows))
                if at == 0 and rng.random() < 0.5:
                    rows[0] = f"hours {rng.randint(0, 4)}"
                elif at == 0:
                    rows.insert(rng.randint(1, len(rows)), "block " + rng.choice(spots))
                else:
                    words = rows[at].split(" ")
                    words.insert(rng.randint(1, len(words)), rng.choice(spots))
                    if rng.random() < 0.5:
                        words.pop(rng.randint(1, len(words) - 1))
                    rows[at] = " ".join(words)
                told = self.check(text, program, "".join(row + "\n" for row in rows))
                kinds[told and told[3]] = kinds.get(told and told[3], 0) + 1
        self.assertLessEqual({None, "place", "twice", "apart", "even", "hours"}, set(kinds))

    def test_programs_that_are_too_long_or_wrong(self):
        kinds = {}
        for source, program in sources_and_programs(715, 60):
            paper = paper_text(source, best_chain(order_of(source)))
            told = self.check(source_text(source), program_text(program), paper)
            kinds[told and told[3]] = kinds.get(told and told[3], 0) + 1
        self.assertLessEqual({None, "tells", "long"}, set(kinds))

    def test_none_just_if_no_program_has_fewer_hours(self):
        for source, program in sources_and_programs(716, 40):
            order = order_of(source)
            paper = paper_text(source, best_chain(order))
            means = fault_by_hand(program) is None and told_terms_of(program) == written(source)[2]
            best = means and len(program.hours()) == len(compiled(source).plan())
            self.assertIs(papers_fault(source_text(source), program_text(program), paper) is None, best)

    def test_blocks_are_read_as_they_stand(self):
        self.assertEqual(blocks_by_hand(T_PAPER), [[(3, 5)], [(4, 5)], [(5, 5)]])
        self.assertEqual(self.check(T_TEXT, program_text(Program([], [], [])), T_PAPER), ("program", 1, 1, "tells"))


if __name__ == "__main__":
    unittest.main()
