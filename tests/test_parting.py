"""Worlds that part [17], beside all WORLDS of few turns."""

import unittest

from builtahead.flows import all_conditions
from builtahead.hands import is_stuck
from builtahead.lastword import faults, is_right
from builtahead.machine import is_world
from builtahead.mades import made_from, names_in, plain_made, with_home, with_mask, with_wait, without_wait
from builtahead.meets import is_even, uneven_arrays
from builtahead.parting import fault_world, is_part_world, part_world, parting_turns
from builtahead.runs import how_many_runs, nth_run
from builtahead.sources import source_from, source_told
from tests.tools import call, check_examples, check_things, dice, names_for, raises, random_source, thing_variants
from tests.worlds import all_told, even_source, random_made, some_widths, told_by_hand

EXAMPLES = """
    >>> source = ((("a", (), ("x", 1, 0), ()), ("b", (), ("y", 1, 0), (("x", 1, 0),))), ("b",))
    >>> made = made_from("a; b a.0 | - | a; b | a b 0; b a 2 | a -; b - | a 2 1 1; b 0 | -")
    >>> one = with_home(made, "a", ("seat", 3))
    >>> parting_turns(source, one), is_part_world(source, one, part_world(source, one)), parting_turns(source, without_wait(made, "a", "b", 0)), part_world(source, made), fault_world(source, made, ("late", (), "b", 0, "a"))
    (2, True, 1, None, None)
"""

SOURCE = source_from("a - x.1.0; b* - y.1.0 x.1.0")
MADE = made_from("a; b a.0 | - | a; b | a b 0; b a 2 | a -; b - | a 2 1 1; b 0 | -")


def some(seed, count, most=3):
    rng = dice(seed)
    for _ in range(count):
        source = even_source(rng, most)
        yield rng, source, random_made(rng, source)


def do_part(source, made, turns, conditions, more):
    """Whether a WORLD with these parts, of some WIDTHS, these besides."""
    expected = source_told(source, conditions, turns)
    return any(all_told(source, made, turns, conditions, widths) != {expected} for widths in some_widths(made, 2) + more)


class PartTest(unittest.TestCase):

    def test_fewest_turns(self):
        found = {}
        for rng, source, made in some(120, 350):
            turns, world = call(self, parting_turns, source, made), call(self, part_world, source, made)
            stuck = is_stuck(made[2], made[3])
            self.assertIs(turns is None, stuck or is_right(source, made))
            self.assertIs(world is None, turns is None)
            if world is not None:
                self.assertEqual(world[0], turns)
                self.check_parts(source, made, world)
            names = len(names_in(made))
            most = 3 if names < 3 else 2 if names == 3 else 1
            # A stuck MADE has RUNS of no turns alone.
            for many in range(1 if stuck else most + 1):
                more = [world[2]] if world else []
                parted = any(do_part(source, made, many, conditions, more) for conditions in all_conditions(source))
                self.assertIs(parted, turns is not None and turns <= many, (many, turns))
            found[turns] = found.get(turns, 0) + 1
        self.assertGreater(min(found[turns] for turns in (None, 1, 2, 3)), 2, found)

    def check_parts(self, source, made, world):
        self.assertIs(is_world(source, made, world), True)
        self.assertNotEqual(told_by_hand(source, made, world), source_told(source, world[1], world[0]))
        self.assertIs(call(self, is_part_world, source, made, world), True)

    def test_each_fault_has_a_world(self):
        words = {}
        for rng, source, made in some(121, 250):
            least = parting_turns(source, made)
            for fault in faults(source, made):
                words[fault[0]] = words.get(fault[0], 0) + 1
                world = call(self, fault_world, source, made, fault)
                if fault[0] == "stuck":
                    self.assertIsNone(world)
                    continue
                self.assertEqual(world[1], fault[1])
                self.assertGreaterEqual(world[0], least)
                self.check_parts(source, made, world)
            for fault in [
                ("late", (), "a", 0, "a"), ("stuck", (), "a", 0, ""), ("over", ("zz",), "b", 0, "a"), ("leaf", (), "a", 7, ""),
                ("told", (), "zz", 0, ""), ("none", (), "a", 0, ""),
            ]:
                if fault not in faults(source, made):
                    self.assertIsNone(call(self, fault_world, source, made, fault))
        self.assertEqual(sorted(words), ["done", "late", "leaf", "over", "stuck", "told"])

    def test_turns_by_hand(self):
        for made, turns in [
            (MADE, None), (with_wait(MADE, "b", "a", 0), None), (with_mask(MADE, "b", ()), 1), (with_mask(MADE, "a", ()), 1),
            (without_wait(MADE, "a", "b", 0), 1), (with_wait(without_wait(MADE, "a", "b", 0), "a", "b", 1), 1), (with_home(MADE, "a", ("seat", 3)), 2),
            (without_wait(MADE, "b", "a", 2), 3), (with_wait(without_wait(MADE, "b", "a", 2), "b", "a", 3), 3),
            (with_home(without_wait(MADE, "b", "a", 2), "a", ("cells", 5, 838861, 22)), 6), (with_home(MADE, "a", ("seat", 0)), 2),
        ]:
            self.assertEqual(call(self, parting_turns, SOURCE, made), turns, made)
        source = source_from("a - x.1.9; b - y.1.5 x.1.0; d* - z.1.0 y.1.0")
        made = made_from("a; b a.9; d b.5 | - | a b d | - | a -; b -; d - | a 10 1677722 24; b 6 699051 22; d 0 | a b")
        self.assertEqual((faults(source, made), parting_turns(source, made)), ([], None))
        # What b reads by the ninth turn is told five turns later.
        for text, turns in [("a; b a.8; d b.5", 14), ("a; b -; d b.5", 15), ("a; b a.9; d b.4", 5), ("a; b a.9; d -", 6), ("a; b a.9; d b.6", 6)]:
            self.assertEqual(parting_turns(source, made_from(text + made_text_behind(made))), turns, text)
        self.assertEqual(parting_turns(source, with_home(made, "a", ("cells", 9, 1864136, 24))), 15)
        self.assertEqual(parting_turns(source, with_home(made, "b", ("cells", 5, 838861, 22))), 6)
        self.assertEqual(parting_turns(source, (*made[:6], ())), 6)

    def test_who_never_waits_comes_at_once(self):
        source = source_from("a - x.1.0; b* - y.1.0 x.1.0; d - z.1.0")
        text = "a; b a.0; d | - | a b; d | - | a -; b -; d - | a 4; b 0; d 4 | -"
        self.assertEqual((faults(source, made_from(text)), parting_turns(source, made_from(text))), ([("over", (), "b", 0, "d")], 1))
        later = with_wait(made_from(text), "d", "a", 0)
        self.assertEqual((faults(source, later), parting_turns(source, later)), ([("over", (), "b", 0, "d")], 2))
        self.assertEqual(parting_turns(source, with_wait(made_from(text), "d", "a", 3)), 1)
        self.assertEqual(parting_turns(source, with_wait(later, "b", "d", 2)), 2)
        self.assertIsNone(parting_turns(source, with_wait(later, "b", "d", 1)))

    def test_far_through_moves(self):
        source = source_from("b* - y.1.0 x.2.1")
        made = made_from("b m.1 | m x.2.3 n.9; n x.2.21 - | n m b | - | b -; m -; n - | b 0; m 2 1 1; n 10 1677722 24 | m n")
        self.assertEqual((faults(source, made), parting_turns(source, made)), ([], None))
        # The first letter of n is right, its second one is asked by b ten turns later.
        bent = (made[0], (made[1][0], ("n", ("x", 3, 21), ())), *made[2:])
        self.assertEqual((faults(source, bent), parting_turns(source, bent)), ([("leaf", (), "n", 0, "")], 12))
        self.assertEqual(part_world(source, bent)[0], 12)
        self.assertIs(is_part_world(source, bent, part_world(source, bent)), True)

    def test_far_ahead(self):
        # Nobody keeps a from going on; it is seen only when it has gone past all cells.
        source = source_from("a - x.1.0; b* - y.1.0 x.1.16")
        self.assertIs(is_right(source, plain_made(source)), True)
        source = source_from("a - x.1.16; b* - y.1.0 x.1.0")
        made = made_from("a; b a.16 | - | a; b | a b 16 | a -; b - | a 16 1 4; b 0 | -")
        self.assertEqual((faults(source, made), parting_turns(source, made)), ([("over", (), "b", 0, "a")], 17))
        world = part_world(source, made)
        self.assertIs(is_part_world(source, made, world), True)
        self.assertIs(is_part_world(source, with_wait(made, "b", "a", 0), world), False)


def made_text_behind(made):
    """What stands in the text of the MADE of this test behind its steps."""
    return " | - | a b d | - | a -; b -; d - | a 10 1677722 24; b 6 699051 22; d 0 | a b"


class IsPartWorldTest(unittest.TestCase):

    def test_right_and_wrong(self):
        one = with_home(MADE, "a", ("seat", 3))
        runs = [nth_run(one, 2, number) for number in range(how_many_runs(one, 2))]
        for run in runs:
            world = (2, (), (), run)
            parted = run.index(("a", 1, "end")) < run.index(("b", 0, "begin"))
            self.assertIs(is_part_world(SOURCE, one, world), parted)
            self.assertIs(is_part_world(SOURCE, MADE, world), False)
            self.assertIs(is_part_world(SOURCE, MADE, (2, (), (("a", 3),), run)), False)
        parted = part_world(SOURCE, one)
        for thing in thing_variants(parted):
            self.assertIs(is_part_world(SOURCE, one, thing), False, thing)
        self.assertIs(is_part_world(SOURCE, one, list(parted)), False)
        check_things(self, is_part_world, (SOURCE, one), lambda thing: False)
        check_things(self, is_part_world, (SOURCE, MADE), lambda thing: False)

    def test_great_widths_and_many_turns(self):
        source = source_from("a - x.1.0; b* - y.1.0 x.1.0; d - z.1.0")
        made = made_from("a; b a.0; d | - | a b; d | - | a -; b -; d - | a 1 1 0; b 0; d 2 1 1 | -")
        run = nth_run(made, 2, 0)
        run = (("a", 0, "begin"), ("a", 0, "end"), ("d", 0, "begin"), ("d", 0, "end"), ("d", 1, "begin"), ("d", 1, "end"), *(
            moment for moment in run if moment[0] != "d" and moment[:2] != ("a", 0)
        ))
        for width, parted in [(10 ** 40, True), (1, True)]:
            self.assertIs(is_part_world(source, made, (2, (), (("a", width), ("d", 1)), run)), parted)
        other = (*made[:6], (("d", "a"),))
        self.assertIs(is_part_world(source, other, (2, (), (("a", 10 ** 40), ("d", 10 ** 40)), run)), False)
        late = (*run[:2], *(moment for moment in run[6:] if moment[1] == 0), *run[2:6], *(moment for moment in run[6:] if moment[1] == 1))
        self.assertIs(is_part_world(source, made, (2, (), (("a", 10 ** 40), ("d", 1)), late)), False)
        long = tuple((name, turn, word) for turn in range(150) for name in "abd" for word in ("begin", "end"))
        self.assertIs(is_part_world(source, made, (150, (), (("a", 1), ("d", 1)), long)), False)


class ErrorsTest(unittest.TestCase):

    def test_not_even(self):
        rng, many = dice(122), 0
        while many < 15:
            source = random_source(rng)
            if not is_even(source):
                many += 1
                error = f"NotEven(array={uneven_arrays(source)[0]!r})"
                for function, more in ((parting_turns, ()), (part_world, ()), (fault_world, (("told", (), "a", 0, ""),)), (is_part_world, (None,))):
                    raises(self, error, function, source, MADE, *more)


class ExamplesTest(unittest.TestCase):

    def test_examples(self):
        check_examples(self, EXAMPLES, names_for("parting"))


if __name__ == "__main__":
    unittest.main()
