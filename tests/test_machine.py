"""The machine [15], beside one that is played by hand, unit by unit."""

import unittest

from builtahead.flows import all_conditions
from builtahead.mades import made_from, plain_made
from builtahead.machine import (
    first_wrong, is_world, roots_read, root_written, seats_behind, tells_right, told_story, trace, units_behind,
)
from builtahead.runs import how_many_runs, is_run, nth_run
from builtahead.sources import source_from, source_told
from tests.tools import call, check_examples, check_things, dice, names_for, raises, thing_variants
from tests.worlds import HandMachine, even_source, random_made, story_of_reads, told_by_hand, told_names

EXAMPLES = """
    >>> source = source_from("a - x.0.0 p.1.0; b* - y.1.0 x.0.0")
    >>> sat = ((("a", ((),)), ("b", (("a", 0),))), (), (("a",), ("b",)), (("a", "b", 0),), (("a", ((),)), ("b", ((),))), (("a", ("seat", 0)), ("b", ("seat", 1))), ())
    >>> boxed = (*sat[:5], (("a", ("cells", 2, 1, 1)), ("b", ("seat", 1))), ())
    >>> one, other = (2, (), (), nth_run(sat, 2, 0)), (2, (), (("a", 3),), nth_run(boxed, 2, 0))
    >>> is_world(source, boxed, one), tells_right(source, sat, one), first_wrong(source, sat, one), tells_right(source, boxed, other)
    (False, False, ('a', 0), True)
    >>> told_story(source, sat, one), units_behind(source, boxed, other, 4)
    ((('a', 1, (('first', 'p', 1),)), ('b', 0, (('step', 'a', 1),)), ('b', 1, (('step', 'a', 1),))), ((0, 3, ('step', 'a', 0)), (3, 3, ('step', 'a', 1))))
"""

SOURCE = source_from("a - x.0.0 p.1.0; b* +c y.1.0 x.0.0 q.1.3; d* - z.1.2 z.1.0")
# a has too few cells, b reads a through m, d its own seat; m and a meet, b is done by c alone.
MADE = made_from(
    "a -; b m.0, -; d d.2 | m x.0.0 a.1 | a; m b; d | m b 0 | a -, c; b c; d -, c; m -, c | "
    "a 1 1 0; b 1; d 0; m 1 1 0 | -"
)


def some(seed, count, most=4):
    """MADES that have RUNS, and WORLDS of them."""
    rng = dice(seed)
    while count:
        source = even_source(rng)
        made = random_made(rng, source)
        names = sum(len(row) for row in made[2])
        turns = rng.randint(0, min(4, max(1, 12 // names)))
        runs = how_many_runs(made, turns)
        if runs:
            count -= 1
            widths = tuple((name, rng.choice([1, 1, 2, 3, 5])) for name, home in made[5] if home[0] == "cells")
            world = (turns, rng.choice(all_conditions(source)), widths, nth_run(made, turns, rng.randrange(runs)))
            yield rng, source, made, world


class PlayedTest(unittest.TestCase):

    def test_beside_a_machine_by_hand(self):
        kinds = {"lost": 0, "undone": 0, "moved": 0, "wrong": 0, "right": 0}
        for rng, source, made, world in some(100, 400):
            turns, conditions, widths, run = world
            machine, memory, read = HandMachine(source, made, conditions, widths), {}, {}
            entries, written = [], {}
            moments = sorted({0, len(run), *(rng.randint(0, len(run)) for _ in range(3))})
            for at in range(len(run) + 1):
                if at in moments:
                    self.check_behind(source, made, world, at, memory)
                if at < len(run):
                    entries.append(machine.moment(memory, read, run[at]))
                    written.update({run[at][:2]: entries[-1]} if run[at][2] == "end" else {})
            self.assertEqual(call(self, trace, source, made, world), tuple(entries))
            kinds["undone"] += None in entries
            kinds["lost"] += any(entry is not None and () in entry for entry in entries)
            kinds["moved"] += any(name in ("m", "n") for name, _, _ in run)
            for name, turn, _ in run[:6]:
                self.assertEqual(call(self, roots_read, source, made, world, name, turn), read.get((name, turn)))
                self.assertEqual(call(self, root_written, source, made, world, name, turn), written.get((name, turn)))
            story, expected = story_of_reads(read, told_names(source, made)), source_told(source, conditions, turns)
            self.assertEqual(call(self, told_story, source, made, world), story)
            self.assertIs(call(self, tells_right, source, made, world), story == expected)
            alone = sorted(row[:2] for row in set(story) ^ set(expected))
            self.assertEqual(call(self, first_wrong, source, made, world), alone[0] if alone else None)
            kinds["wrong" if alone else "right"] += 1
        self.assertGreater(min(kinds.values()), 30, kinds)

    def check_behind(self, source, made, world, at, memory):
        seats = {place[1]: root for place, (_, root) in memory.items() if isinstance(place, tuple)}
        self.assertEqual(call(self, seats_behind, source, made, world, at), tuple(sorted(seats.items())))
        units = {}
        for unit, (step, root) in memory.items():
            if not isinstance(unit, tuple) and root != ():
                units.setdefault(step, []).append((unit, root))
        width = dict(world[2])
        whole = [(min(found)[0], len(found), found[0][1]) for step, found in units.items() if len(found) == width[step[0]]]
        self.assertEqual(call(self, units_behind, source, made, world, at), tuple(sorted(whole)))

    def test_a_made_by_hand(self):
        run = (
            ("a", 0, "begin"), ("d", 0, "begin"), ("a", 0, "end"), ("d", 0, "end"), ("a", 1, "begin"), ("m", 0, "begin"),
            ("m", 0, "end"), ("d", 1, "begin"), ("b", 0, "begin"), ("d", 1, "end"), ("b", 0, "end"), ("m", 1, "begin"), ("a", 1, "end"),
            ("m", 1, "end"), ("d", 2, "begin"), ("b", 1, "begin"), ("b", 1, "end"), ("a", 2, "begin"), ("m", 2, "begin"), ("a", 2, "end"),
            ("m", 2, "end"), ("b", 2, "begin"), ("d", 2, "end"), ("b", 2, "end"),
        )
        self.assertIs(is_run(MADE, 3, run), True)
        world = (3, ("c",), (("a", 2), ("m", 1)), run)
        first, step = "first", "step"
        self.assertEqual(trace(SOURCE, MADE, world), (
            ((first, "p", 0),), ((first, "z", 0),), (step, "a", 0), (step, "d", 0), ((first, "p", 1),), ((first, "x", 0),),
            # m writes over the first unit of what a wrote, so its next read finds nothing whole.
            (first, "x", 0), ((first, "z", 1),), ((first, "x", 0), (first, "q", 3)), (step, "d", 1), (step, "b", 0), ((),), (step, "a", 1),
            (), ((step, "d", 1),), ((), (first, "q", 4)), (step, "b", 1), ((first, "p", 2),), ((),), (step, "a", 2),
            (), ((), (first, "q", 5)), (step, "d", 2), (step, "b", 2),
        ))
        self.assertEqual(units_behind(SOURCE, MADE, world, 3), ((0, 2, (step, "a", 0)),))
        self.assertEqual(units_behind(SOURCE, MADE, world, 7), ((0, 1, (first, "x", 0)),))
        self.assertEqual(units_behind(SOURCE, MADE, world, 13), ((0, 2, (step, "a", 1)),))
        self.assertEqual(units_behind(SOURCE, MADE, world, 24), ())
        self.assertEqual(seats_behind(SOURCE, MADE, world, 12), ((0, (step, "d", 1)), (1, (step, "b", 0))))
        self.assertEqual(seats_behind(SOURCE, MADE, world, 0), ())
        self.assertEqual(first_wrong(SOURCE, MADE, world), ("a", 0))
        undone = (3, (), (("a", 2), ("m", 1)), run)
        self.assertEqual(trace(SOURCE, MADE, undone)[8:11:2], (None, None))
        self.assertIsNone(roots_read(SOURCE, MADE, undone, "b", 2))
        self.assertIsNone(root_written(SOURCE, MADE, undone, "b", 2))
        self.assertEqual(told_story(SOURCE, MADE, undone), tuple(row for row in told_story(SOURCE, MADE, world) if row[0] == "d"))
        self.assertEqual(first_wrong(SOURCE, MADE, undone), ("d", 2))

    def test_cells_worked_out_wrongly(self):
        source = source_from("a - x.1.0; b* - y.1.0 x.1.0")
        wrong = made_from("a; b a.0 | - | a b | - | a -; b - | a 2 0 0; b 0 | -")
        world = (4, (), (("a", 1),), nth_run(wrong, 4, 0))
        # The third cell and the fourth one are not there: what a wrote stands in the first two.
        self.assertEqual([roots_read(source, wrong, world, "b", turn) for turn in range(4)], [(("step", "a", 0),), (("step", "a", 1),), ((),), ((),)])
        self.assertEqual(told_story(source, wrong, world), told_by_hand(source, wrong, world))
        self.assertEqual(units_behind(source, wrong, world, 16), ((0, 1, ("step", "a", 2)), (1, 1, ("step", "a", 3))))

    def test_a_seat_keeps_what_was_written_last(self):
        source = source_from("a* - x.1.0; b* - y.1.0 x.1.0")
        made = made_from("a; b b.0 | - | a b | - | a -; b - | a 4; b 4 | -")
        world = (2, (), (), nth_run(made, 2, 0))
        self.assertEqual(trace(source, made, world)[2], (("step", "a", 0),))
        self.assertIs(tells_right(source, made, world), True)
        self.assertEqual(seats_behind(source, made, world, 8), ((4, ("step", "b", 1)),))
        loose = made_from("a; b b.0 | - | b a | - | a -; b - | a 4; b 4 | -")
        self.assertEqual(roots_read(source, loose, (2, (), (), nth_run(loose, 2, 0)), "b", 0), ((),))

    def test_no_turns(self):
        for made in (MADE, plain_made(SOURCE)):
            widths = tuple((name, 1) for name, home in made[5] if home[0] == "cells")
            world = (0, (), widths, ())
            self.assertEqual((trace(SOURCE, made, world), told_story(SOURCE, made, world)), ((), ()))
            self.assertEqual((seats_behind(SOURCE, made, world, 0), units_behind(SOURCE, made, world, 0)), ((), ()))
            self.assertIs(tells_right(SOURCE, made, world), True)
            self.assertIsNone(first_wrong(SOURCE, made, world))


class IsWorldTest(unittest.TestCase):

    def test_worlds_and_what_is_none(self):
        for rng, source, made, world in some(101, 60):
            self.assertIs(call(self, is_world, source, made, world), True)
            turns, conditions, widths, run = world
            for thing in [
                list(world), world[:3], (*world, ()), (turns + 1, *world[1:]), (turns - 1, *world[1:]), (turns, ("zz",), widths, run),
                (turns, conditions, (*widths, ("zz", 1)), run), (turns, conditions, widths, (*run, ("a", 0, "begin"))),
                (turns, list(conditions), widths, run), (turns, conditions, list(widths), run), (turns, conditions, widths, list(run)),
                (10 ** 6, conditions, widths, run), (10 ** 40, conditions, widths, run), (-1, conditions, widths, ()),
            ]:
                self.assertIs(is_world(source, made, thing), False, thing)
            if widths:
                self.assertIs(is_world(source, made, (turns, conditions, tuple((name, 10 ** 40) for name, _ in widths), run)), True)
                self.assertIs(is_world(source, made, (turns, conditions, widths[1:], run)), False)
            if turns:
                self.assertIs(is_world(source, made, (turns, conditions, widths, run[::-1])), False)
                other = (run[1], run[0], *run[2:])
                self.assertIs(is_world(source, made, (turns, conditions, widths, other)), is_run(made, turns, other))

    def test_conditions_and_variants(self):
        run = nth_run(MADE, 1, 0)
        for conditions, right in [((), True), (("c",), True), (("e",), False), (("c", "e"), False), (("c", "c"), False)]:
            self.assertIs(is_world(SOURCE, MADE, (1, conditions, (("a", 1), ("m", 2)), run)), right)
        for thing in thing_variants((1, ("c",), (("a", 1), ("m", 2)), run)):
            right = repr(thing) == repr((1, (), (("a", 1), ("m", 2)), run))
            self.assertIs(is_world(SOURCE, MADE, thing), right, thing)
        check_things(self, is_world, (SOURCE, MADE), lambda thing: False)

    def test_many_turns(self):
        source = source_from("a* - x.1.0")
        made = plain_made(source)
        run = tuple(("a", turn, word) for turn in range(300) for word in ("begin", "end"))
        self.assertIs(is_world(source, made, (300, (), (("a", 7),), run)), True)
        self.assertIs(is_world(source, made, (300, (), (("a", 7),), run[2:])), False)
        bare = ((), (), ((),), (), (), (), ())
        self.assertIs(is_world(source, bare, (3, (), (), ())), True)
        self.assertIs(is_world(source, bare, (10 ** 6, (), (), ())), True)
        self.assertIs(is_world(source, bare, (10 ** 6 + 1, (), (), ())), False)
        for odd in (None, 0, True, "", "a", [], ((),)):
            self.assertIs(is_world(source, bare, (0, (), (), odd)), False, odd)
            self.assertIs(is_world(source, bare, (0, (), odd, ())), False, odd)
            self.assertIs(is_world(source, bare, (0, odd, (), ())), False, odd)
            self.assertIs(is_world(source, bare, (odd, (), (), ())), odd == 0 and odd is not False, odd)


class ErrorsTest(unittest.TestCase):

    def test_no_name_then_no_number(self):
        world = (2, (), (("a", 1), ("m", 1)), nth_run(MADE, 2, 0))
        for function in (roots_read, root_written):
            for name in ("z", "", "A"):
                raises(self, f"NoName(name={name!r})", function, SOURCE, MADE, world, name, 9)
            for turn in (-1, 2, 10 ** 30):
                raises(self, f"NoNumber(number={turn})", function, SOURCE, MADE, world, "m", turn)
        for function in (seats_behind, units_behind):
            for number in (-1, 17, 10 ** 30):
                raises(self, f"NoNumber(number={number})", function, SOURCE, MADE, world, number)
            call(self, function, SOURCE, MADE, world, 16)


class ExamplesTest(unittest.TestCase):

    def test_examples(self):
        check_examples(self, EXAMPLES, names_for("machine"))


if __name__ == "__main__":
    unittest.main()
