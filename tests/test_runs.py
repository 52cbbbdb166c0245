"""RUNS [9], beside a list of all of them."""

import itertools
import unittest

from builtahead import runs
from builtahead.errors import NoNumber
from builtahead.hands import is_stuck, ranks
from builtahead.runs import (
    all_ahead, has_run, how_many_runs, is_run, is_run_with, moments, must_be_ahead, nth_run, number_of_run, run_between,
    run_with,
)
from tests.tools import (
    call, check_examples, check_things, dice, made_of, raises, random_rows, random_waits, thing_variants,
)

EXAMPLES = """
    >>> steps, masks, homes = (("a", ((),)), ("b", (("a", 0),))), (("a", ((),)), ("b", ((),))), (("a", ("seat", 0)), ("b", ("seat", 1)))
    >>> made, loose = (steps, (), (("a",), ("b",)), (("a", "b", 0), ("b", "a", 1)), masks, homes, ()), (steps, (), (("a",), ("b",)), (("a", "b", 0),), masks, homes, ())
    >>> how_many_runs(made, 2), how_many_runs(loose, 2), nth_run(loose, 2, 0)[:4], is_run(made, 2, nth_run(loose, 2, 0))
    (1, 6, (('a', 0, 'begin'), ('a', 0, 'end'), ('a', 1, 'begin'), ('a', 1, 'end')), False)
    >>> must_be_ahead(loose, 2, ("b", 0, "end"), ("a", 1, "begin")), must_be_ahead(made, 2, ("b", 0, "end"), ("a", 1, "begin")), run_between(made, 2, ("a", 0), ("a", 1), ("b", 0))
    (False, True, None)
    >>> all_ahead(made, 2, ("c", 0, "begin"))
    raises NoName(name='c')
"""


def all_moments(made, turns):
    return sorted((name, turn, word) for row in made[2] for name in row for turn in range(turns) for word in ("begin", "end"))


def can_come(made, turns, done, moment):
    """Whether this moment can come behind those that are done, as [3] says it."""
    name, turn, word = moment
    if word == "end":
        return (name, turn, "begin") in done
    row = next(row for row in made[2] if name in row)
    at = row.index(name)
    if at > 0 and (row[at - 1], turn, "end") not in done:
        return False
    if at == 0 and turn > 0 and (row[-1], turn - 1, "end") not in done:
        return False
    waits = [(first, turn - number) for first, later, number in made[3] if later == name and number <= turn]
    return all((*step, "end") in done for step in waits)


def all_runs(made, turns):
    """The ascending list of all RUNS."""
    every = all_moments(made, turns)

    def behind(done):
        if len(done) == len(every):
            return [done]
        return [
            run for moment in every if moment not in done and can_come(made, turns, done, moment)
            for run in behind((*done, moment))
        ]
    return behind(())


def some(seed, count, most_steps=5):
    """Small MADES with numbers of turns, stuck ones and rows that are () among them."""
    rng = dice(seed)
    for _ in range(count):
        names = list("abc"[:rng.randint(1, 3)])
        made = made_of(random_rows(rng, names), random_waits(rng, names, 4, 2))
        yield rng, made, rng.randint(0, max(1, most_steps // len(names)))


class AllRunsTest(unittest.TestCase):

    def test_beside_a_list_of_all(self):
        counts = []
        for rng, made, turns in some(30, 160):
            every = all_runs(made, turns)
            counts.append(len(every))
            self.assertEqual(call(self, moments, made, turns), tuple(all_moments(made, turns)))
            self.assertIs(call(self, has_run, made, turns), every != [])
            self.assertEqual(has_run(made, turns), turns == 0 or not is_stuck(made[2], made[3]))
            self.assertEqual(call(self, how_many_runs, made, turns), len(every))
            for number in sorted({0, 1, len(every) // 2, len(every) - 1}):
                if 0 <= number < len(every):
                    self.assertEqual(call(self, nth_run, made, turns, number), every[number])
                    self.assertEqual(call(self, number_of_run, made, turns, every[number]), number)
            for number in (-1, len(every), 10 ** 30):
                raises(self, f"NoNumber(number={number})", nth_run, made, turns, number)
            self.check_orders(made, turns, every)
        self.assertIn(0, counts)
        self.assertIn(1, counts)
        self.assertGreater(max(counts), 50)

    def check_orders(self, made, turns, every):
        place = [{moment: at for at, moment in enumerate(run)} for run in every]
        for moment in all_moments(made, turns):
            if not every:
                raises(self, "Stuck()", all_ahead, made, turns, moment)
                raises(self, "Stuck()", must_be_ahead, made, turns, moment, moment)
                continue
            ahead = [one for one in all_moments(made, turns) if all(at[one] < at[moment] for at in place)]
            self.assertEqual(all_ahead(made, turns, moment), tuple(ahead))
            for one in all_moments(made, turns):
                self.assertIs(must_be_ahead(made, turns, one, moment), one in ahead)
        if every and turns:
            call(self, all_ahead, made, turns, moment)
            call(self, must_be_ahead, made, turns, one, moment)

    def test_no_turns_and_many(self):
        made = made_of((("a",), ("b",)), (("a", "b", 0), ("b", "a", 0)))
        self.assertEqual((moments(made, 0), has_run(made, 0), how_many_runs(made, 0), nth_run(made, 0, 0)), ((), True, 1, ()))
        self.assertEqual((number_of_run(made, 0, ()), is_run(made, 0, ()), run_with(made, 0, ())), (0, True, ()))
        self.assertEqual((has_run(made, 1), how_many_runs(made, 1), run_with(made, 1, ())), (False, 0, None))
        raises(self, "NoNumber(number=0)", nth_run, made, 1, 0)
        free = made_of((("a", "b"), ("c", "d"), ("e", "f")), ())
        self.assertEqual(how_many_runs(free, 2), 9465511770)
        last = nth_run(free, 2, 9465511769)
        self.assertEqual(number_of_run(free, 2, last), 9465511769)
        self.assertEqual(last[:2], (("e", 0, "begin"), ("e", 0, "end")))
        self.assertEqual(number_of_run(free, 2, nth_run(free, 2, 123456789)), 123456789)

    def test_without_names(self):
        made = made_of(((),), ())
        self.assertEqual((moments(made, 3), has_run(made, 3), how_many_runs(made, 3), nth_run(made, 3, 0)), ((), True, 1, ()))

    def test_steps_by_ranks_make_a_run(self):
        for rng, made, turns in some(31, 60):
            if not is_stuck(made[2], made[3]):
                numbers = dict(ranks(made[2], made[3]))
                steps = sorted((numbers[name] + turn * len(numbers), name, turn) for name in numbers for turn in range(4))
                run = tuple((name, turn, word) for _, name, turn in steps for word in ("begin", "end"))
                self.assertIs(is_run(made, 4, run), True)


class IsRunTest(unittest.TestCase):

    def test_all_orders(self):
        for rng, made, turns in some(32, 60, most_steps=3):
            every = all_runs(made, turns)
            for thing in itertools.permutations(all_moments(made, turns)):
                self.assertIs(is_run(made, turns, thing), thing in every)
            if every:
                self.assertIs(is_run(made, turns, list(every[0])), False)
                self.assertIs(is_run(made, turns, [list(moment) for moment in every[0]]), False)
                for thing in thing_variants(every[0]):
                    self.assertIs(is_run(made, turns, thing), repr(thing) in [repr(run) for run in every])
                self.assertIs(is_run(made, turns + 1, every[0]), False)
                call(self, is_run, made, turns, every[-1])

    def test_odd_things(self):
        made = made_of((("a",),), ())
        check_things(self, is_run, (made, 0), lambda thing: repr(thing) == "()")
        check_things(self, is_run, (made, 1), lambda thing: False)
        check_things(self, is_run_with, (made, 1, ()), lambda thing: False)

    def test_many_moments(self):
        names = [letter * 2 for letter in "abcdefghijkl"]
        made = made_of((tuple(names[:5]), tuple(names[5:]), ()), ((names[0], names[7], 1), (names[9], names[1], 0)))
        run = call(self, run_with, made, 4, ())
        self.assertEqual(len(run), 96)
        self.assertIs(is_run(made, 4, run), True)
        self.assertIs(is_run(made, 4, run[::-1]), False)


class RunWithTest(unittest.TestCase):

    def test_beside_a_list_of_all(self):
        found = [0, 0]
        for rng, made, turns in some(33, 200):
            every, all_of = all_runs(made, turns), all_moments(made, turns)
            if not all_of:
                continue
            pairs = tuple((rng.choice(all_of), rng.choice(all_of)) for _ in range(rng.randint(0, 3)))
            right = [run for run in every if all(run.index(one) < run.index(other) for one, other in pairs)]
            run = call(self, run_with, made, turns, pairs)
            found[run is None] += 1
            self.assertIs(run is None, right == [])
            for thing in [run, *every[:5], *every[-3:], all_of, tuple(all_of)]:
                self.assertIs(is_run_with(made, turns, pairs, thing), thing in right)
            call(self, is_run_with, made, turns, pairs, run)
            steps = [rng.choice(all_of)[:2] for _ in range(3)]
            writer, other, reader = [(*step, "end") for step in steps[:2]] + [(*steps[2], "begin")]
            right = [run for run in every if run.index(writer) < run.index(other) < run.index(reader)]
            run = call(self, run_between, made, turns, *steps)
            self.assertIs(run is None, right == [])
            self.assertTrue(run is None or run in right)
        self.assertGreater(min(found), 20)

    def test_a_moment_is_not_ahead_of_itself(self):
        made = made_of((("a",), ("b",)), ())
        one, other = ("a", 0, "end"), ("b", 0, "begin")
        self.assertIsNone(run_with(made, 1, ((one, one),)))
        self.assertIsNone(run_with(made, 1, ((one, other), (other, one))))
        self.assertIsNone(run_between(made, 1, ("a", 0), ("a", 0), ("b", 0)))
        self.assertIs(must_be_ahead(made, 1, one, one), False)


class ErrorsTest(unittest.TestCase):

    def test_moment_by_moment(self):
        made, stuck = made_of((("a",), ("b",)), ()), made_of((("a",), ("b",)), (("a", "b", 0), ("b", "a", 0)))
        good, late, unknown = ("a", 1, "end"), ("b", 2, "begin"), ("d", 7, "end")
        for there in (made, stuck):
            raises(self, "NoNumber(number=2)", must_be_ahead, there, 2, late, unknown)
            raises(self, "NoName(name='d')", must_be_ahead, there, 2, unknown, late)
            raises(self, "NoName(name='d')", must_be_ahead, there, 2, good, unknown)
            raises(self, "NoNumber(number=-1)", must_be_ahead, there, 2, good, ("a", -1, "end"))
            raises(self, "NoName(name='')", all_ahead, there, 2, ("", 0, "end"))
            raises(self, "NoNumber(number=0)", all_ahead, there, 0, ("a", 0, "end"))
            for function, more in ((run_with, ()), (is_run_with, (None,))):
                raises(self, "NoNumber(number=2)", function, there, 2, ((good, late), (unknown, good)), *more)
                raises(self, "NoName(name='d')", function, there, 2, ((good, good), (unknown, late)), *more)
            raises(self, "NoName(name='d')", run_between, there, 2, ("a", 0), ("d", 9), ("b", 9))
            raises(self, "NoNumber(number=9)", run_between, there, 2, ("a", 0), ("b", 9), ("d", 9))
            raises(self, "NoNumber(number=2)", run_between, there, 2, ("a", 0), ("b", 0), ("b", 2))
        raises(self, "Stuck()", must_be_ahead, stuck, 2, good, good)
        raises(self, "Stuck()", all_ahead, stuck, 2, good)
        self.assertIsNone(run_with(stuck, 2, ((good, good),)))
        self.assertIsNone(run_between(stuck, 2, ("a", 0), ("a", 1), ("b", 0)))
        self.assertIs(is_run_with(stuck, 2, (), ()), False)

    def test_the_error_keeps_its_number(self):
        with self.assertRaises(NoNumber) as caught:
            nth_run(made_of((("a",),), ()), 1, 1)
        self.assertEqual(caught.exception.number, 1)


class ExamplesTest(unittest.TestCase):

    def test_examples(self):
        check_examples(self, EXAMPLES, vars(runs))


if __name__ == "__main__":
    unittest.main()
