"""The interface: each name in its file, with its parameters."""

import ast
import pathlib
import unittest

FOLDER = pathlib.Path(__file__).resolve().parent.parent / "twoslots"
FUNCTIONS = {
    "sourcetexts": "source_text(source) read_source(text) source_fault(text) goes_on(text)",
    "places": "places(source) expr_at(source,line,sign)",
    "programtexts": "program_text(program) read_program(text) program_fault(text) program_goes_on(text)",
    "terms": "term_rows(source) told_numbers(source) written_out(source,number) places_of(source,number)",
    "sameness": "mean_same(one,other) unlike_paper(one,other) is_unlike_paper(one,other,thing)",
    "partings": "values_told(source,box) parting_box(one,other) is_parting_box(one,other,thing)",
    "plaintexts": "plain_source(source)",
    "needed": ("needed_terms(source) fewest_makings(source) order_of(source) wanted_terms(source,held) "
               "order_from(source,held) why_needed(source,number) why_idle(source,number)"),
    "makings": "makings(source)",
    "carried": ("fewest_carried(source,line) carried_terms(source,line) is_carried(source,line,thing) "
                "carried_ways(source,line) are_ways(source,line,thing)"),
    "listings": "count_listings(order) listing_at(order,number) listing_number(order,listing)",
    "rows": "order_of_row(row) levels_of(row) rearranged(row,other) turned_pair(row,other)",
    "renamed": "renamed(row) gone_pairs(row)",
    "plans": ("fewest_hours(order) best_plan(order) plan_within(order,hours) plan_fault(order,thing) "
              "empty_slots(order)"),
    "chains": ("best_chain(order) chain_against(order,hours) chain_hours(order,chain) "
               "chain_fault(order,thing)"),
    "begun": "begun_fault(order,thing) hours_left(order,begun) next_hours(order,begun,hours)",
    "plancounts": "count_plans(order) plan_at(order,number) plan_number(order,plan)",
    "cells": "lives(source,plan) waiting(source,plan) fewest_cells(source,plan) crowded_hour(source,plan)",
    "namings": ("naming(source,plan,cells) naming_fault(source,plan,thing) "
                "count_namings(source,plan,cells)"),
    "recells": "cells_wanted(program) crowded_in(program) with_fewer_cells(program)",
    "cellhours": ("hours_within(source,cells) text_within(source,cells,hours) cell_hours(source) "
                  "layers(source,cells,hours) is_layers(source,cells,hours,thing)"),
    "holdups": "lighter_moves(source,plan)",
    "faults": "first_fault(program) is_sound(program) program_terms(program)",
    "running": "run(program,box)",
    "slices": "wanted_for(program,name) idle(program) struck(program,spots)",
    "cuts": "ahead_part(program,hour) rest_part(program,hour)",
    "traces": "places_made(source,program,hour,slot) made_at(source,program,line,sign)",
    "repairs": "repairs(source,program)",
    "compiled": "compiled(source)",
    "judging": "is_same(source,program) judged(source,program)",
    "hoping": "hopes(source,program) lost_hours(source,program) go_on(source,program,many)",
    "changing": ("new_terms(source,other) change_hours(source,other) wasted(program,other) "
                 "stays_best(source,other,plan)"),
    "redone": "redone(source,some) redo_plan(source,some) redo_chain(source,some)",
    "givens": ("hours_given(source,line) given_chain(source,line) holding_lines(source) fewest_given(source,hours) "
               "hours_without(source,name) forcing(source)"),
    "edits": "edit_cost(source,other) blamed(source,other)",
    "papers": ("paper_text(source,chain) read_paper(text) "
               "papers_fault(source_text,program_text,paper_text)"),
    "behind": "put_behind(one,other) alike_everywhere(one,other) parting_source(one,other)",
    "repeating": ("again(source,many) settles(source) growing_ring(source) is_growing_ring(source,thing) "
                  "alike_again(source,one,other)"),
    "definitions": "expanded(source,definitions) ring_of_uses(source,definitions)",
    "seen": "order_of_seen(seen) unseen(seen)",
    "toldback": "source_of_teller(teller,reads) source_of_program(program)",
    "sessiontexts": "write_session(session) read_session(text)",
}
CLASSES = {
    "sources": ("Source", "__init__(self,lines) lines(self) reads(self) tells(self) __eq__(self,other)"),
    "programs": ("Program", "__init__(self,reads,hours,tells) reads(self) hours(self) tells(self) __eq__(self,other)"),
    "orders": ("Order", "__init__(self,many,pairs) many(self) direct(self) ahead(self,one) behind(self,one) "
                        "levels(self) __eq__(self,other)"),
    "running": ("Run", "__init__(self,program,box) step(self) hour(self) cells(self) told(self) made_by(self,cell) "
                       "back(self) copy(self) __eq__(self,other)"),
    "compiled": ("Compiled", "source(self) program(self) plan(self) chain(self) hours(self) __eq__(self,other)"),
    "definitions": ("Definitions", "__init__(self,rows) rows(self) __eq__(self,other)"),
    "sessions": ("Session", "__init__(self) now(self) mark(self) watched(self) do(self,deed) is_question(self,thing) "
                            "answer(self,question) would(self,deed) can_take(self) costs(self) count(self) deeds(self) "
                            "undo(self) again(self) at(self,number) copy(self) trial(self,work) __eq__(self,other)"),
}


def heads_in(body):
    found = []
    for node in body:
        if isinstance(node, ast.FunctionDef):
            found.append(node.name + "(" + ",".join(part.arg for part in node.args.args) + ")")
            if node.args.defaults:
                found.pop()
    return found


class Interface(unittest.TestCase):
    def body_of(self, file):
        return ast.parse((FOLDER / (file + ".py")).read_text()).body

    def test_functions(self):
        for file, heads in FUNCTIONS.items():
            for head in heads.split(" "):
                self.assertIn(head, heads_in(self.body_of(file)), file)

    def test_classes(self):
        for file, (name, heads) in CLASSES.items():
            classes = {node.name: node for node in self.body_of(file) if isinstance(node, ast.ClassDef)}
            for head in heads.split(" "):
                self.assertIn(head, heads_in(classes[name].body), file)


if __name__ == "__main__":
    unittest.main()
