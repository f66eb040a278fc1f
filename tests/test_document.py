"""Promises 2 and 43: the interface is there as it is listed, and the document's examples hold as they are printed."""

import doctest
import importlib
import inspect
import os
import unittest

import shopwhole.errors
from shop import JOB

INTERFACE = {
    "solids": """is_solid(thing) box(corner,other) union(a,b) meet(a,b) less(a,b) union_of(solids) is_within(a,b)
        do_meet(a,b) boxes_of(solid) volume(solid) area(solid) bounds(solid) has(solid,point) moved(solid,by)
        mirrored(solid,axis) spread(solid,by) pieces(solid) piece_with(solid,point) swept(lot,tool)
        barred(tool,solid) neighbours(lot)""",
    "turns": "turned(solid,turn) turned_point(point,turn) after(one,other) back(turn)",
    "jobtexts": "read_solid(text) solid_text(solid) read_job(text) job_text(job)",
    "ways": """is_way(lot,way) length_of(way) way_in(lot,start,end) heights_for(lot,start,end)
        is_least_way(lot,way,heights) is_parted(lot,start,end,side)""",
    "orders": """are_costs(thing) cost_of(costs,order) least_order(costs) heights_of(costs)
        is_least_order(costs,order,heights) costs_between(ends,home,distance)""",
    "duedates": """are_jobs(thing,machines) lateness_of(jobs,machines,plan) least_lateness(jobs,machines)
        is_least(jobs,machines,plan,table)""",
    "inspection": """taken_by(stocks) taker_of(stocks,point) faces_of(solid,side) faces_made(solid,taken,side)
        slice_text(solid,height) probe(solid,point,side) excess(solid,wished) lacking(solid,wished)""",
    "leastrounds": "least_program(job) is_least_round(job,told) way_of_round(job,told)",
    "nesting": """are_blanks(thing) size_of_tree(blanks,tree,saw) is_cutting(blanks,plate,saw,tree)
        places_of(blanks,tree,saw,corner) fronts_of(blanks,saw) cut_up(blanks,plate,saw)
        is_never(blanks,plate,saw,fronts)""",
    "assembly": """are_parts(thing) in_the_way(parts,name,side) is_order(parts,order) taken_apart(parts)
        put_together(parts) locks_of(parts,core) is_locked(parts,core,locks)""",
    "views": "view(solid,axis) views(solid) greatest_with(told) are_views(told) fits_views(solid,told)",
    "holding": """free_steps(solid,stuff) is_held(solid,clamps,names) fewest_clamps(solid,clamps)
        are_fewest(solid,clamps,names,papers)""",
    "jobs": "placed(setup,solid) taken_back(setup,solid) check_job(job) is_job(thing) is_fine(job,solid)",
    "lots": "cube_at(standing) line_lot(start,axis,to) travel_lot(machine)",
    "motor": "run_motor(job,program)",
    "judge": "judge(job,program) is_good(job,program) is_program(thing)",
    "stops": "run_history(job,program,history) steps_in(job,program) most_steps(job,program,history)",
    "strokes": "strokes_for(lot,cutter,stock)",
    "plans": "program_for(job)",
    "choices": """job_with(job,kind,choice) setups_needed(job) tools_needed(job)
        are_papers(job,kind,choice,papers)""",
    "closure": """free_lot(job,setup,tool,rest) closure(job) is_paper(job,paper) can_be_made(job)
        shows_never(job,paper)""",
    "edits": "program_again(job,book)",
    "codewords": "sum_of(line) words_of(line,number)",
    "codereader": "read_code(text,home)",
    "codewriter": "code_text(program,has_sums) relative_text(program,home)",
    "tidy": "tidied(job,program) do_same(job,one,other) first_alarm(job,program)",
    "timeline": """times_of(job,program) length_of_time(job,program) where_at(job,program,tick)
        wear_of(job,program)""",
    "lives": "lives_hold(job,program,lives) with_changes(job,program,lives)",
    "loads": "load_of(stock,cutter,start,axis,to) loads_of(job,program) loads_hold(job,program,limits)",
    "greatest": """with_cutter(job,at,wide,deep) greatest_cutter(job,at,deep,most)
        is_greatest(job,at,deep,most,told) with_stock(job,stock) least_stock(job,stocks)""",
    "twoheads": """are_programs(thing) judge_two(job,machine,at,programs) run_two(job,machine,at,programs,turns)
        with_meets(job,machine,at,programs)""",
    "folding": "folded(program,home) unfolded(pieces,items,home) folded_text(program,home)",
    "palettes": "many_job(job,places) many_program(job,program,places) is_clear(job,program,places)",
}
# Each class with what it is made of, its methods, and the attributes that it has from the beginning.
CLASSES = {
    "motor": ("Motor(job)", "do(self,block)", "stock setup tool standing steps"),
    "stops": ("Stopped(job)", "do(self,block) start(self,program,stop)", "stock setup tool standing steps journal"),
    "edits": ("Book()", "", "asked used"),
}
ERRORS = {"BadThing": ("thing",), "BadText": ("line", "column"), "BadJob": ("name", "why"), "BadPaper": ("why",),
          "Alarm": ("why",)}


class Interface(unittest.TestCase):
    def test_names_and_arguments_are_as_listed(self):
        for module, names in INTERFACE.items():
            found = importlib.import_module(f"shopwhole.{module}")
            for told in names.split():
                name, arguments = told[:-1].split("(")
                function = getattr(found, name)
                self.assertTrue(inspect.isfunction(function), name)
                self.assertEqual(function.__module__, f"shopwhole.{module}", name)
                self.assertEqual(",".join(inspect.signature(function).parameters), arguments, name)

    def test_classes_have_their_methods_themselves(self):
        for module, (told, methods, attributes) in CLASSES.items():
            name, arguments = told[:-1].split("(")
            found = getattr(importlib.import_module(f"shopwhole.{module}"), name)
            self.assertTrue(inspect.isclass(found))
            self.assertEqual(found.__module__, f"shopwhole.{module}")
            self.assertEqual(",".join(inspect.signature(found).parameters), arguments)
            for method in methods.split():
                word, taken = method[:-1].split("(")
                self.assertIn(word, vars(found))
                self.assertEqual(",".join(inspect.signature(vars(found)[word]).parameters), taken)
            for word in attributes.split():
                self.assertIn(word, vars(found(JOB) if arguments else found()))

    def test_errors(self):
        self.assertEqual(shopwhole.errors.ShopError.__bases__, (Exception,))
        for name, attributes in ERRORS.items():
            error = getattr(shopwhole.errors, name)
            self.assertEqual(error.__bases__, (shopwhole.errors.ShopError,))
            self.assertEqual(error.__module__, "shopwhole.errors")
            self.assertEqual(tuple(inspect.signature(error).parameters), attributes)
            made = error(*range(7, 7 + len(attributes)))
            self.assertEqual([getattr(made, word) for word in attributes], list(range(7, 7 + len(attributes))))
            self.assertIsInstance(str(made), str)
            with self.assertRaises(shopwhole.errors.ShopError):
                raise made
        self.assertEqual(shopwhole.errors.BadThing((1, 2)).thing, (1, 2))


class Examples(unittest.TestCase):
    def test_examples_hold_as_they_are_printed(self):
        path = os.path.join(os.path.dirname(os.path.abspath(__file__)), "examples.txt")
        with open(path, encoding="utf-8") as file:
            told = doctest.DocTestParser().get_doctest(file.read(), {}, "examples", path, 0)
        self.assertGreater(len(told.examples), 70)
        results = doctest.DocTestRunner(verbose=False).run(told)
        self.assertEqual(results.failed, 0)


if __name__ == "__main__":
    unittest.main()
