"""Names, arguments and files of the interface [28]."""

import importlib
import inspect
import unittest

FUNCTIONS = {
    "sources": """is_source(thing), statement_names(source), conditions_of(source), statement_of(source, name),
        guard_of(source, name), target_of(source, name), reads_of(source, name), acts(source, name, conditions),
        source_told(source, conditions, turns), roots_of_step(source, conditions, name, turn),
        cells_after(source, conditions, turns), source_text(source), source_from(text)""",
    "meets": """first_touch(one, other), do_touch(one, other), turns_back(read, written), arrays_of(source),
        parts_of_array(source, array), uneven_arrays(source), is_even(source), check_even(source),
        writers_met(source, name, number), letter_met(source, name, number, conditions, turn), never_read(source)""",
    "flows": """all_conditions(source), leaf(tree, conditions), asked_in(tree), plain_tree(tree), leaves(tree),
        telling_conditions(one, other), later_tree(tree, d), is_tree(names, thing),
        tree_of_read(source, name, number), flow(source)""",
    "texts": """names_text(names), numbers_text(numbers), tree_text(tree), story_text(story), names_from(text),
        numbers_from(text), story_from(text), tree_from(text)""",
    "hands": """arrows(rows, waits), gap(rows, waits, one, other), all_gaps(rows, waits), gaps(made),
        least_gap(made, one, other), gap_way(rows, waits, one, other), is_gap_way(rows, waits, one, other, thing),
        stuck_ring(rows, waits), is_stuck(rows, waits), is_stuck_ring(rows, waits, thing),
        is_ahead(rows, waits, one, other, turns), ranks(rows, waits), are_ranks(rows, waits, thing),
        needed_waits(rows, waits), broken_duties(rows, waits, duties), waits_for(rows, duties),
        fewer_runs(rows, one, other)""",
    "runs": """moments(made, turns), has_run(made, turns), is_run(made, turns, thing), all_ahead(made, turns, moment),
        must_be_ahead(made, turns, one, other), run_with(made, turns, pairs), is_run_with(made, turns, pairs, thing),
        run_between(made, turns, writer, other, reader), how_many_runs(made, turns), nth_run(made, turns, number),
        number_of_run(made, turns, run)""",
    "times": """is_latencies(made, thing), begins(made, turns, latencies), end_time(made, turns, latencies),
        never_later(one, other), latencies_later(one, other), is_latencies_later(one, other, thing),
        chain_apart(one, other), most_times(one, other), is_chain_apart(one, other, thing), beat(made, rates)""",
    "numbers": """worked_out(turn, cells, multiplier, shift), first_inexact(cells, multiplier, shift),
        is_exact(cells, multiplier, shift, bound), corners(cells, bound), multipliers(cells, shift, bound),
        least_numbers(cells, bound)""",
    "buffers": """buffers(made), is_widths(made, thing), is_order(made, thing), is_chained(order, one, other),
        may_meet(made, one, other), bases(made, widths), extent(made, widths), cell_span(made, widths, one, turn),
        meeting_widths(made, one, turn, other, later), is_meeting_widths(made, one, turn, other, later, thing)""",
    "mades": """names_in(made), trees_of(made, name), place_of_move(made, name), row_of(made, name), mask_of(made, name),
        is_done(made, name, conditions), home_of(made, name), cells_of(made, name), with_rows(made, rows),
        with_waits(made, waits), with_wait(made, one, other, gap), without_wait(made, one, other, gap),
        with_mask(made, name, mask), with_home(made, name, home), is_shaped(thing), form_faults(source, thing),
        is_made(source, thing), plain_made(source), made_text(made), made_from(text)""",
    "needs": """needed(source, conditions), ever_needed(source), when_needed(source, name), looks(source, conditions),
        chain_to(source, conditions, name), is_chain_to(source, conditions, name, thing),
        last_turns(source, conditions, name), is_looked_at(source, conditions, name, turn, many),
        looked_at(source, conditions, many), struck(source), needed_names(source, made, conditions),
        made_looks(source, made, conditions)""",
    "machine": """is_world(source, made, thing), trace(source, made, world), roots_read(source, made, world, name, turn),
        root_written(source, made, world, name, turn), told_story(source, made, world),
        tells_right(source, made, world), first_wrong(source, made, world),
        seats_behind(source, made, world, number), units_behind(source, made, world, number)""",
    "lastword": """kept_reads(source, made, conditions), faults(source, made), first_fault(source, made),
        is_right(source, made), why_right(source, made), is_why_right(source, made, thing)""",
    "parting": """parting_turns(source, made), fault_world(source, made, fault), part_world(source, made),
        is_part_world(source, made, thing)""",
    "seats": """can_sit(source, made, one), may_share(source, made, one, other), sharing_pairs(source, made),
        why_apart(source, made, one, other), is_layout(source, made, thing), fewest_seats(source, made),
        least_layout(source, made), apart_most(source, made), seated(source, made)""",
    "masks": """acting(source, name), least_masks(source, made), hurt_by(source, made, name, conditions),
        greatest_masks(source, made), with_masks(made, masks), off_masks(source, made)""",
    "folds": """fold(rows, waits, name, reads), is_enough(rows, waits, name, reads, many),
        lost_read(rows, waits, name, reads, many), waits_to_fold(rows, waits, name, reads, many),
        reads_by(source, made, name), least_cells(source, made), too_few(source, made),
        with_least_cells(source, made)""",
    "moves": """chain(made, name, read, conditions), leads_to(made, name, read, conditions), passed(made, name),
        put_in(source, made, reader, read, move, hand, place, home), places_for(source, made, reader, read),
        needless_moves(source, made), fewest_moves(source, made)""",
    "free": """can_go(source, made, waits), free_waits(source, made), fewest_waits(source, made),
        free_order(source, made), turnable(source, made), seats_for(source, made, name),
        cells_for(source, made, name), spots_for(source, made, name), swaps(source, made),
        healing_wait(source, made, hand, place)""",
    "bounds": """bound_pairs(source, made), is_enough_order(source, made, order), floor_of(source, made, widths),
        least_extent(source, made, widths), least_order(source, made, widths),
        is_least_order(source, made, widths, thing)""",
    "twomades": """chain_of_buffers(one, other), peak_ratio(one, other), widths_apart(one, other),
        is_widths_apart(one, other, thing), is_beaten(one, other), unbeaten(mades)""",
    "edits": """is_edit(thing), edited(source, made, edit), undone_by(made, edit), do_commute(source, made, one, other),
        may_wait(made, one, other, distance), way_of_waits(source, one, other),
        is_right_way(source, one, other, thing)""",
    "desk": """answers(text)""",
}
# By file and class: how an object is made, its properties, its methods.
CLASSES = {
    ("edits", "Watch"): (
        ["source", "made"], ["source", "made", "told"],
        {"right": [], "fault": [], "do": ["edit"], "back": [], "back_alone": ["number"], "twin": [], "__len__": [], "__eq__": ["other"]},
    ),
    ("board", "Board"): (
        [], ["names", "deeds"],
        {
            "put": ["name", "source", "made"], "drop": ["name"], "rename": ["name", "new"], "edit": ["name", "edit"], "undo": [],
            "twin": [], "right": [], "of_source": ["source"], "in_seat": ["number"], "alike": ["name"], "__len__": [],
            "__contains__": ["name"], "__getitem__": ["name"], "__eq__": ["other"],
        },
    ),
}


class InterfaceTest(unittest.TestCase):

    def test_each_function_stands_in_its_file_with_its_arguments(self):
        for file, text in FUNCTIONS.items():
            module = importlib.import_module("builtahead." + file)
            for told in text.replace("),", ")\n").split("\n"):
                if not told.strip():
                    continue
                with self.subTest(told=told.strip()):
                    name, _, rest = told.strip().partition("(")
                    function = getattr(module, name)
                    self.assertTrue(inspect.isfunction(function))
                    self.assertEqual(function.__module__, "builtahead." + file)
                    found = list(inspect.signature(function).parameters.values())
                    self.assertEqual([part.name for part in found], rest.rstrip(")").split(", "))
                    self.check_plain(found)

    def check_plain(self, parts):
        for part in parts:
            self.assertEqual(part.kind, part.POSITIONAL_OR_KEYWORD)
            self.assertIs(part.default, part.empty)

    def test_each_class_has_its_methods_itself(self):
        for (file, word), (made_by, properties, methods) in CLASSES.items():
            kind = getattr(importlib.import_module("builtahead." + file), word)
            self.assertEqual((kind.__module__, kind.__bases__), ("builtahead." + file, (object,)))
            found = list(inspect.signature(kind).parameters.values())
            self.assertEqual([part.name for part in found], made_by)
            self.check_plain(found)
            for name in properties:
                told = vars(kind)[name]
                self.assertIsInstance(told, property)
                self.assertEqual((told.fset, told.fdel), (None, None))
            for name, words in methods.items():
                method = vars(kind)[name]
                self.assertTrue(inspect.isfunction(method), name)
                found = list(inspect.signature(method).parameters.values())
                self.assertEqual([part.name for part in found], ["self", *words])
                self.check_plain(found)


if __name__ == "__main__":
    unittest.main()
