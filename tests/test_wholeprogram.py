"""[1], [62]: from a text to what a program tells by boxes, and whatever is done with the program on the way."""

import random
import unittest

from twoslots.cellhours import cell_hours, text_within
from twoslots.chains import chain_hours
from twoslots.compiled import compiled
from twoslots.cuts import ahead_part, rest_part
from twoslots.faults import is_sound
from twoslots.hoping import go_on, hopes
from twoslots.judging import is_same, judged
from twoslots.needed import fewest_makings, order_of
from twoslots.papers import paper_text, papers_fault, read_paper
from twoslots.partings import values_told
from twoslots.plaintexts import plain_source
from twoslots.programs import Program
from twoslots.programtexts import program_text, read_program
from twoslots.recells import cells_wanted, with_fewer_cells
from twoslots.repairs import changed, repairs
from twoslots.running import Run, run
from twoslots.sameness import mean_same
from twoslots.sessions import Session
from twoslots.sessiontexts import read_session, write_session
from twoslots.slices import idle, struck
from twoslots.sourcetexts import read_source, source_text
from twoslots.toldback import source_of_program

from tests.hopeoracles import rich_sources, spread_program
from tests.programsamples import tells_the_same
from tests.samples import T_TEXT, random_sources
from tests.test_behind import box_of


def sources():
    return [read_source(T_TEXT)] + rich_sources(811, 40) + random_sources(812, 30)


def boxes(seed, many=4):
    rng = random.Random(seed)
    return [box_of(rng, "abcd") for _ in range(many)]


class Whole(unittest.TestCase):
    def check_means(self, source, program):
        """The program means the source: by terms, and by some boxes."""
        self.assertTrue(is_sound(program))
        self.assertTrue(is_same(source, program))
        self.assertTrue(tells_the_same(source, program))
        for box in boxes(813):
            self.assertEqual(run(program, box), values_told(source, box))

    def test_from_a_text_to_values(self):
        for source in sources():
            read = read_source(source_text(source))
            self.assertEqual(read, source)
            made = compiled(read)
            program = read_program(program_text(made.program()))
            self.assertEqual(program, made.program())
            self.check_means(source, program)
            for box in boxes(814):
                stands = Run(program, box)
                while stands.hour() < made.hours():
                    stands.step()
                self.assertEqual(stands.told(), values_told(source, box))
            self.assertEqual(judged(source, program), ("best",))
            self.assertEqual(sum(len(hour) for hour in program.hours()), fewest_makings(source))

    def test_the_paper_of_its_chain_shows_it(self):
        for source in sources():
            made = compiled(source)
            paper = paper_text(source, made.chain())
            self.assertEqual(chain_hours(order_of(source), made.chain()), made.hours())
            self.assertEqual(read_paper(paper)[0], len(made.program().hours()))
            self.assertIsNone(papers_fault(source_text(source), program_text(made.program()), paper))

    def test_cut_in_two(self):
        for source in sources():
            program = compiled(source).program()
            for hour in range(len(program.hours()) + 1):
                ahead, rest = ahead_part(program, hour), rest_part(program, hour)
                for box in boxes(815, many=2):
                    starts = (box[0], run(ahead, box), box[2])
                    self.assertEqual(run(rest, starts), values_told(source, box))

    def test_gone_on_with(self):
        rng = random.Random(816)
        for source in sources():
            program = spread_program(rng, source)
            for hour, hope in enumerate(hopes(source, program)):
                on = go_on(source, program, hour)
                self.check_means(source, on)
                self.assertEqual(len(on.hours()), hope)

    def test_on_fewer_cells_and_without_what_is_idle(self):
        rng = random.Random(817)
        for source in sources():
            program = spread_program(rng, source)
            fewer = with_fewer_cells(program)
            self.check_means(source, fewer)
            self.assertEqual(cells_wanted(fewer), cells_wanted(program))
            self.check_means(source, struck(program, idle(program)))
            self.assertEqual(idle(compiled(source).program()), [])

    def test_on_just_so_many_cells(self):
        for source in rich_sources(818, 15, most=5, lines=9):
            if len(source.reads()) + fewest_makings(source) <= 7:
                for cells, hours in cell_hours(source)[:3]:
                    self.check_means(source, text_within(source, cells, hours))

    def test_mended(self):
        rng = random.Random(819)
        mended = 0
        for source in sources():
            program = compiled(source).program()
            hours = program.hours()
            spots = [(at, slot) for at, hour in enumerate(hours) for slot in range(len(hour))]
            if not spots:
                continue
            at, slot = rng.choice(spots)
            cell, name, cells = hours[at][slot]
            hours[at][slot] = (cell + 1, name, cells) if rng.random() < 0.5 else (cell, name, cells[::-1])
            wrong = Program(program.reads(), hours, program.tells())
            for change in repairs(source, wrong):
                self.check_means(source, changed(wrong, change))
                mended += 1
        self.assertGreater(mended, 20)

    def test_told_back(self):
        rng = random.Random(820)
        for source in sources():
            back = source_of_program(compiled(source).program())
            self.assertEqual(source_text(back), source_text(plain_source(source)))
            self.assertTrue(mean_same(back, source))
            self.check_means(source, compiled(back).program())
            self.assertEqual(source_of_program(spread_program(rng, source)), back)

    def test_in_a_session(self):
        for source in sources():
            made = compiled(source)
            session = read_session("".join(f"line {row}\n" for row in source_text(source).split("\n")[:-1]))
            session.do(("mark",))
            session.do(("hold", ("same",)))
            session.do(("hold", ("in", made.hours())))
            for at in session.can_take():
                other = session.copy()
                other.do(("take", at))
                self.check_means(source, compiled(other.now()).program())
                self.assertLessEqual(compiled(other.now()).hours(), made.hours())
            self.assertEqual(read_session(write_session(session)), session)
        self.assertNotEqual(session, Session())


if __name__ == "__main__":
    unittest.main()
