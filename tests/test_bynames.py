"""[2]: whatever has parameters is called by their names, in another order, and tells what it tells by place."""

import importlib
import unittest

from twoslots.definitions import Definitions
from twoslots.orders import Order
from twoslots.programs import Program
from twoslots.running import Run
from twoslots.sessions import Session
from twoslots.sources import Source
from twoslots.sourcetexts import read_source

from tests.programsamples import NARROW, P
from tests.samples import P_HOURS, P_READS, P_TELLS, P_TEXT, T_LINES, T_TEXT, source_of
from tests.test_interface import CLASSES, FUNCTIONS
from tests.test_papers import T_PAPER
from tests.test_toldback import teller_of_t

T = read_source(T_TEXT)
OTHER = source_of("read a / read b / x = f(b, a) / y = g(x, x) / z = h(y, x) / tell z / tell x")
SHORT = source_of("read a / x = f(a) / tell x")
ORDER = Order(3, [(0, 1)])
ROW = [(3, "f", (1, 2)), (4, "f", (1, 2)), (5, "g", (3, 4))]
TURNED = [ROW[1], ROW[0], ROW[2]]
PLAN = [[0], [1], [2]]
BOX = ([("f", [1, 2], 5), ("g", [5, 5], 7)], [("a", 1), ("b", 2)], 0)
WRONG = Program(P_READS, P_HOURS[:1] + [[(4, "g", (1, 3))]] + P_HOURS[2:], P_TELLS)
PAPER = ("path", 0, [0, 0, 0])
DEFINED = Definitions([("h", ["p", "q"], ("m", "q", "p"))])
RINGED = Definitions([("h", ["p", "q"], ("h", "q", "p"))])
TURNING = source_of("read x / read y / u = f(y) / y = x / x = u / tell x / tell y")
NAMED = {0: 1, 1: 2, 2: 3, 3: 4, 4: 5}


def a_session():
    session = Session()
    for at, line in enumerate(T_LINES):
        session.do(("put", at, line))
    session.do(("mark",))
    session.do(("watch", ("in", 3)))
    return session


# What each function is passed, by place; of each there is one whose places can be told from one another.
PASSED = {
    "source_text": (T,), "read_source": (T_TEXT,), "source_fault": ("x = b\n",), "goes_on": ("read",), "places": (T,),
    "expr_at": (T, 4, 10), "program_text": (P,), "read_program": (P_TEXT,), "program_fault": ("01 = f()",), "program_goes_on": ("read",),
    "term_rows": (T,), "told_numbers": (T,), "written_out": (T, 4), "places_of": (T, 2), "mean_same": (T, OTHER),
    "unlike_paper": (T, SHORT), "is_unlike_paper": (T, OTHER, PAPER), "values_told": (T, BOX), "parting_box": (T, OTHER),
    "is_parting_box": (T, OTHER, ([], [], 0)), "plain_source": (T,), "needed_terms": (T,), "fewest_makings": (T,), "order_of": (T,),
    "wanted_terms": (T, [0, 1, 3]), "order_from": (T, [0, 1, 3]), "why_needed": (T, 1), "why_idle": (T, 1), "makings": (T,),
    "fewest_carried": (T, 3), "carried_terms": (T, 3), "is_carried": (T, 3, [2]), "carried_ways": (T, 3), "are_ways": (T, 2, [[4, 2, 0], [4, 2, 1]]),
    "count_listings": (ORDER,), "listing_at": (ORDER, 1), "listing_number": (ORDER, [0, 2, 1]), "order_of_row": (ROW,), "levels_of": (ROW,),
    "rearranged": (ROW, TURNED), "turned_pair": (ROW, TURNED[:2]), "renamed": (ROW,), "gone_pairs": (ROW,), "fewest_hours": (ORDER,),
    "best_plan": (ORDER,), "plan_within": (ORDER, 2), "plan_fault": (ORDER, [[1]]), "empty_slots": (ORDER,), "best_chain": (ORDER,),
    "chain_against": (ORDER, 1), "chain_hours": (ORDER, [[0], [1]]), "chain_fault": (ORDER, [[1], [0]]), "begun_fault": (ORDER, [[1]]),
    "hours_left": (ORDER, [[0]]), "next_hours": (ORDER, [[0]], 2), "count_plans": (ORDER,), "plan_at": (ORDER, 1),
    "plan_number": (ORDER, [[0], [1, 2]]), "lives": (T, PLAN), "waiting": (T, PLAN), "fewest_cells": (T, PLAN), "crowded_hour": (T, PLAN),
    "naming": (T, PLAN, 3), "naming_fault": (T, PLAN, NAMED), "count_namings": (T, PLAN, 3), "cells_wanted": (P,), "crowded_in": (P,),
    "with_fewer_cells": (P,), "hours_within": (T, 2), "text_within": (T, 2, 4), "cell_hours": (T,), "layers": (T, 3, 2),
    "is_layers": (T, 2, 2, [[[0, 1]]]), "lighter_moves": (T, PLAN), "first_fault": (WRONG,), "is_sound": (P,), "program_terms": (P,),
    "run": (P, BOX), "wanted_for": (P, "z"), "idle": (P,), "struck": (P, [(3, 1)]), "ahead_part": (P, 1), "rest_part": (P, 1),
    "places_made": (T, P, 1, 1), "made_at": (T, P, 4, 10), "repairs": (T, WRONG), "compiled": (T,), "is_same": (T, P), "judged": (T, WRONG),
    "hopes": (T, NARROW), "lost_hours": (SHORT, P), "go_on": (T, P, 1), "new_terms": (T, OTHER), "change_hours": (T, SHORT),
    "wasted": (P, OTHER), "stays_best": (T, OTHER, PLAN), "redone": (T, ["b"]), "redo_plan": (T, ["a"]), "redo_chain": (T, ["a"]),
    "hours_given": (T, 3), "given_chain": (T, 5), "holding_lines": (T,), "fewest_given": (T, 1), "hours_without": (T, "z"), "forcing": (T,),
    "edit_cost": (T, SHORT), "blamed": (T, OTHER), "paper_text": (T, PLAN), "read_paper": (T_PAPER,), "papers_fault": (T_TEXT, P_TEXT, T_PAPER),
    "put_behind": (TURNING, SHORT), "alike_everywhere": (T, OTHER), "parting_source": (T, SHORT), "again": (TURNING, 3), "settles": (SHORT,),
    "growing_ring": (TURNING,), "is_growing_ring": (TURNING, ["x", "y"]), "alike_again": (SHORT, 1, 2), "expanded": (T, DEFINED),
    "ring_of_uses": (T, RINGED), "order_of_seen": ([[0, 1, 2], [0, 2, 1]],), "unseen": ([[0, 1, 2], [2, 1, 0]],),
    "source_of_teller": (teller_of_t, ["a", "b"]), "source_of_program": (P,), "write_session": (a_session(),),
    "read_session": ("line read a\nwatch hours\n",),
}

# What each method with parameters is passed, and how an object is made that it is asked of.
ASKED = {
    "Order.ahead": (lambda: ORDER, (1,)), "Order.behind": (lambda: ORDER, (0,)), "Run.made_by": (lambda: Run(P, BOX), (2,)),
    "Session.do": (a_session, (("take", 6),)), "Session.is_question": (a_session, (("told", "x"),)), "Session.answer": (a_session, (("in", 2),)),
    "Session.would": (a_session, (("take", 5),)), "Session.at": (a_session, (3,)), "Session.trial": (a_session, (lambda one: one.count(),)),
}
MADE = {"Source": (T_LINES,), "Program": (P_READS, P_HOURS, P_TELLS), "Order": (3, [(0, 1)]), "Run": (P, BOX),
        "Definitions": ([("sq", ["p"], ("mul", "p", "p"))],)}


def heads(text):
    """The pairs (name, parameters without self) of the heads in a row of the interface."""
    for head in text.split(" "):
        name, rest = head.split("(")
        yield name, [word for word in rest[:-1].split(",") if word not in ("", "self")]


class ByNames(unittest.TestCase):
    def check(self, call, names, things):
        self.assertEqual(len(names), len(things))
        by_place = call(*things)
        for turn in range(len(names)):
            order = list(zip(names, things))[::-1]
            by_name = call(**dict(order[turn:] + order[:turn]))
            if by_place is None:
                self.assertIsNone(by_name)
            else:
                self.assertIs(type(by_name), type(by_place))
                self.assertEqual(by_name, by_place)

    def test_functions(self):
        found = []
        for file, text in FUNCTIONS.items():
            module = importlib.import_module("twoslots." + file)
            for name, names in heads(text):
                self.check(getattr(module, name), names, PASSED[name])
                found.append(name)
        self.assertEqual(sorted(found), sorted(PASSED))

    def test_classes_and_methods(self):
        asked = []
        for file, (kind, text) in CLASSES.items():
            made = getattr(importlib.import_module("twoslots." + file), kind)
            for name, names in heads(text):
                if name == "__init__" and names:
                    self.check(made, names, MADE[kind])
                elif names and name != "__eq__":
                    self.check_method(kind + "." + name, names)
                    asked.append(kind + "." + name)
        self.assertEqual(sorted(asked), sorted(ASKED))

    def check_method(self, word, names):
        make, things = ASKED[word]
        name = word.split(".")[1]
        self.check(lambda *some, **more: getattr(make(), name)(*some, **more), names, things)

    def test_sources_that_mean_something_else_by_other_places(self):
        for name, things in PASSED.items():
            if len(things) > 1:
                kinds = [type(thing) for thing in things[:2]]
                self.assertTrue(kinds[0] is not kinds[1] or things[0] != things[1], name)


if __name__ == "__main__":
    unittest.main()
