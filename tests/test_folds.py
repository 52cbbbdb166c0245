"""Folds [20], beside RUNS of some turns, cell by cell, and beside trying sets of waits."""

import itertools
import unittest

from builtahead.flows import all_conditions
from builtahead.folds import (
    fold, is_enough, least_cells, lost_read, reads_by, too_few, waits_to_fold, with_least_cells,
)
from builtahead.hands import fewer_runs, is_stuck
from builtahead.lastword import faults, is_right, kept_reads
from builtahead.mades import cells_of, home_of, is_made, made_from, names_in, plain_made, with_home, with_rows, with_waits
from builtahead.numbers import is_exact, least_numbers
from builtahead.runs import how_many_runs, nth_run, run_with
from builtahead.sources import source_from
from tests.tools import call, check_examples, dice, made_of, names_for, raises, random_rows, random_waits
from tests.worlds import HandWord, buffer, even_source, near_made, random_made, safe_made

EXAMPLES = """
    >>> rows, waits, reads = (("a", "b"), ("c",)), (("a", "c", 0), ("c", "a", 2)), (("b", 0), ("c", 0))
    >>> fold(rows, waits, "a", reads), fold(rows, waits, "a", (("c", 1),)), fold(rows, waits[:1], "a", reads), fold(rows, waits, "a", (("a", 1),)), lost_read(rows, waits, "a", reads, 1)
    (2, 3, None, 1, ('c', 0))
    >>> waits_to_fold(rows, waits[:1], "a", reads, 2), waits_to_fold(rows, waits, "a", (("c", 1),), 1), waits_to_fold(rows, waits, "a", (("c", 3),), 2)
    ((('c', 'a', 2),), None, None)
    >>> fold(rows, waits, "a", (("d", 0),))
    raises NoName(name='d')
"""

ROWS, WAITS = (("a", "b"), ("c",)), (("a", "c", 0), ("c", "a", 2))
STUCK = (("a", "b", 0), ("b", "a", 0))


def some(seed, count, names="abc", far=2):
    """Rows, waits and reads without a ring of sum 0."""
    rng = dice(seed)
    while count:
        rows = random_rows(rng, list(names[:rng.randint(1, len(names))]))
        known = sorted(name for row in rows for name in row)
        waits = random_waits(rng, known, rng.choice([0, 2, 4]), far)
        reads = tuple(sorted({(rng.choice(known), rng.randint(0, far)) for _ in range(rng.randint(0, 4))}))
        if not is_stuck(rows, waits):
            count -= 1
            yield rng, rows, waits, rng.choice(known), reads


def some_mades(seed, count):
    rng = dice(seed)
    for _ in range(count):
        source = even_source(rng, 4, "xyz", (0, 1, 1), 2)
        yield rng, source, rng.choice([random_made, safe_made, near_made])(rng, source)


def is_lost(run, name, reader, back, many):
    """Whether in this RUN a later value of the name is written on a cell between a write and a read of it."""
    place = {moment: at for at, moment in enumerate(run)}
    turns = 1 + max(turn for _, turn, _ in run)
    for turn in range(back, turns):
        own = turn - back
        read = place[reader, turn, "begin"]
        # The latest value that was written on the cell by then is another one, and comes from a later turn.
        written = [other for other in range(own % many, turns, many) if place[name, other, "end"] < read]
        if any(place[name, own, "end"] < place[name, other, "end"] for other in written):
            return True
    return False


def lost_in_runs(rows, waits, name, read, many, turns):
    """Whether there is a RUN of so many turns in which this read finds a later value."""
    reader, back = read
    made = made_of(rows, waits)
    for turn in range(back, turns):
        later = turn - back + many
        if later < turns and (reader, turn) != (name, later):
            pairs = ((((name, later, "end"), (reader, turn, "begin"))),)
            run = run_with(made, turns, pairs)
            if run is not None:
                assert is_lost(run, name, reader, back, many)
                return True
    return False


class FoldTest(unittest.TestCase):

    def test_beside_all_runs_of_few_turns(self):
        counts = {True: 0, False: 0}
        for rng, rows, waits, name, reads in some(150, 200, "ab", 2):
            made, turns = made_of(rows, waits), 3
            total = how_many_runs(made, turns)
            if total > 600:
                continue
            runs = [nth_run(made, turns, number) for number in range(total)]
            for many in (1, 2):
                # A value two turns later may come too far beyond so few turns, but what is found is lost.
                lost = [read for read in reads if any(is_lost(run, name, *read, many) for run in runs)]
                found = call(self, lost_read, rows, waits, name, reads, many)
                counts[bool(lost)] += 1
                if lost:
                    self.assertLessEqual(found, lost[0])
                if many == 1 and all(back == 0 for _, back in reads):
                    near = [read for read in reads if fold(rows, waits, name, (read,)) in (2, 3, None)]
                    self.assertEqual(lost, near, (rows, waits, name, reads))
        self.assertGreater(min(counts.values()), 20, counts)

    def test_beside_runs_of_many_turns(self):
        found = {"none": 0, "one": 0, "more": 0, "own": 0}
        for rng, rows, waits, name, reads in some(151, 220, "abcd"):
            least = call(self, fold, rows, waits, name, reads)
            found["none" if least is None else "one" if least == 1 else "more"] += 1
            found["own"] += name in dict(reads)
            for many in (1, 2, 3, 5, 16):
                lost = [read for read in reads if lost_in_runs(rows, waits, name, read, many, 2 * many + 4)]
                self.assertEqual(call(self, lost_read, rows, waits, name, reads, many), min(lost, default=None))
                self.assertIs(call(self, is_enough, rows, waits, name, reads, many), lost == [])
                self.assertIs(least is not None and least <= many, lost == [])
        self.assertGreater(min(found.values()), 20, found)

    def test_edges(self):
        for reads, many in [
            ((), 1), ((("a", 0),), 1), ((("a", 16),), 16), ((("b", 16),), 17), ((("c", 16),), 18), ((("b", 0), ("c", 0)), 2),
            ((("a", 1), ("b", 0)), 1), ((("a", 3), ("c", 1)), 3),
        ]:
            self.assertEqual(call(self, fold, ROWS, WAITS, "a", reads), many, reads)
            self.assertIs(call(self, is_enough, ROWS, WAITS, "a", reads, many), True)
            if many > 1:
                self.assertIs(call(self, is_enough, ROWS, WAITS, "a", reads, many - 1), False)
        self.assertEqual(lost_read(ROWS, WAITS, "a", (("a", 16), ("b", 2), ("c", 0)), 2), ("a", 16))
        self.assertEqual(lost_read(ROWS, WAITS, "a", (("b", 2), ("c", 0), ("c", 1)), 2), ("b", 2))
        self.assertEqual((lost_read(ROWS, (), "a", (("c", 0),), 16), fold(ROWS, (), "a", (("c", 0),))), (("c", 0), None))
        self.assertEqual((fold(ROWS, (), "c", ()), lost_read(ROWS, (), "c", (), 1), is_enough(ROWS, (), "c", (), 1)), (1, None, True))
        self.assertEqual(fold((("a",),), (), "a", (("a", 0), ("a", 1), ("a", 2))), 2)


class WaitsTest(unittest.TestCase):

    def test_beside_trying_sets_of_waits(self):
        found = {"none": 0, "nothing": 0, "one": 0, "two": 0}
        for rng, rows, waits, name, reads in some(152, 400, "abcd"):
            for many in (1, 2, 3):
                result = call(self, waits_to_fold, rows, waits, name, reads, many)
                able = [(reader, name, many - back) for reader, back in reads if back <= many]
                right = []
                for size in range(len(able) + 1):
                    for some_waits in itertools.combinations(sorted(set(able)), size):
                        both = waits + some_waits
                        if not is_stuck(rows, both) and is_enough(rows, both, name, reads, many):
                            right.append(some_waits)
                if not right:
                    self.assertIsNone(result, (rows, waits, name, reads, many))
                    found["none"] += 1
                    continue
                fewest = [part for part in right if len(part) == len(right[0])]
                self.assertEqual(fewest, [result])
                found[("nothing", "one", "two", "two")[len(result)]] += 1
                # Just those RUNS: each wait that makes it enough has fewer RUNS than these, or the same.
                for part in right:
                    self.assertIs(fewer_runs(rows, waits + part, waits + result), True)
        self.assertGreater(min(found.values()), 8, found)

    def test_a_wait_more_than_enough_is_none_of_them(self):
        for rng, rows, waits, name, reads in some(153, 150, "abcd"):
            for many in (1, 2, 4):
                if is_enough(rows, waits, name, reads, many):
                    self.assertEqual(waits_to_fold(rows, waits, name, reads, many), ())
                else:
                    self.assertNotEqual(waits_to_fold(rows, waits, name, reads, many), ())

    def test_edges(self):
        for waits, reads, many, expected in [
            ((), (), 1, ()), ((), (("a", 16),), 16, ()), ((), (("a", 3),), 2, None), ((), (("b", 16),), 16, None),
            ((), (("c", 16),), 16, (("c", "a", 0),)), ((), (("c", 16),), 15, None), ((), (("c", 0), ("c", 1)), 2, (("c", "a", 1),)),
            (WAITS[:1], (("c", 2),), 2, None), ((), (("b", 1), ("c", 0)), 2, (("c", "a", 2),)), (WAITS, (("c", 0),), 2, ()),
            (WAITS, (("c", 0),), 1, (("c", "a", 1),)), ((), (("b", 1),), 1, None), ((), (("a", 1),), 1, ()),
        ]:
            self.assertEqual(call(self, waits_to_fold, ROWS, waits, "a", reads, many), expected, (waits, reads, many))
        # A wait of one reader may tell that of another one.
        self.assertEqual(waits_to_fold((("a",), ("b", "c")), (), "a", (("b", 0), ("c", 0)), 1), (("c", "a", 1),))
        self.assertEqual(waits_to_fold((("a",), ("b", "c")), (), "a", (("b", 1), ("c", 0)), 1), (("b", "a", 0),))
        self.assertEqual(waits_to_fold((("a",), ("b",), ("c",)), (), "a", (("b", 1), ("c", 0)), 1), (("b", "a", 0), ("c", "a", 1)))


class MadesTest(unittest.TestCase):

    def test_in_the_words(self):
        counts = {"stuck": 0, "moves": 0, "none": 0, "more": 0, "few": 0, "seat": 0, "changed": 0}
        for rng, source, made in some_mades(154, 350):
            stuck = is_stuck(made[2], made[3])
            counts["stuck"] += stuck
            folds, few = {}, []
            for name in names_in(made):
                reads = set()
                for conditions in all_conditions(source):
                    hand = HandWord(source, made, conditions)
                    reads |= {(reader, back) for reader, _, writer, back in hand.kept if writer == name}
                self.assertEqual(call(self, reads_by, source, made, name), tuple(sorted(reads)))
                counts["moves"] += name in [move[0] for move in made[1]] and reads != set()
                if not stuck:
                    folds[name] = fold(made[2], made[3], name, tuple(sorted(reads)))
                    if folds[name] is None or folds[name] > cells_of(made, name):
                        few.append(name)
                        counts["seat"] += home_of(made, name)[0] == "seat"
            if stuck:
                continue
            boxes = [name for name in names_in(made) if home_of(made, name)[0] == "cells"]
            self.assertEqual(call(self, least_cells, source, made), tuple((name, folds[name]) for name in boxes))
            self.assertEqual(call(self, too_few, source, made), tuple(few))
            counts["none"] += None in folds.values()
            counts["more"] += any(many is not None and many > 1 for many in folds.values())
            counts["few"] += few != []
            least = call(self, with_least_cells, source, made)
            if any(folds[name] is None for name in boxes):
                self.assertIsNone(least)
                continue
            counts["changed"] += least != made
            self.assertIs(is_made(source, least), True)
            for name in names_in(made):
                home = home_of(made, name)
                if home[0] == "cells":
                    home = ("cells", folds[name], *least_numbers(folds[name], 10 ** 6))
                    self.assertIs(is_exact(*home[1:], 10 ** 6), True)
                self.assertEqual(home_of(least, name), home)
            self.assertEqual((least[:5], least[6]), (made[:5], made[6]))
        self.assertGreater(min(counts.values()), 15, counts)

    def test_least_cells_are_enough_and_no_fewer_are(self):
        rights = fewer = 0
        rng = dice(155)
        for _ in range(300):
            source = even_source(rng, 4, "xy", (1, 1), 4)
            made = rng.choice([safe_made, near_made])(rng, source)
            made = rng.choice([made, plain_made(source)])
            if not is_right(source, made):
                continue
            rights += 1
            self.assertEqual(too_few(source, made), ())
            least = with_least_cells(source, made)
            self.assertIs(is_right(source, least), True)
            for name, many in least_cells(source, made):
                if many > 1:
                    fewer += 1
                    wrong = with_home(least, name, buffer(many - 1))
                    self.assertIn("over", [fault[0] for fault in faults(source, wrong)])
                    self.assertEqual(too_few(source, wrong), (name,))
        self.assertGreater(min(rights, fewer), 30, (rights, fewer))

    def test_folds_above_16(self):
        source = source_from("a - x.1.17 x.1.0; b* - y.1.0 x.1.1")
        made = plain_made(source)
        self.assertEqual(made[0], (("a", (("a", 17),)), ("b", (("a", 16),))))
        self.assertEqual(reads_by(source, made, "a"), (("b", 16), ("a", 17))[::-1])
        self.assertEqual((least_cells(source, made), call(self, with_least_cells, source, made)), ((("a", 17), ("b", 1)), None))
        near = source_from("a - x.1.16 x.1.0; b* - y.1.0 x.1.1")
        made = with_home(plain_made(near), "a", buffer(30))
        self.assertEqual((least_cells(near, made), with_least_cells(near, made)), ((("a", 16), ("b", 1)), plain_made(near)))
        # A seat has no cells to change, whatever it needs.
        seat = (*with_home(plain_made(source), "a", ("seat", 0))[:6], ())
        self.assertEqual((least_cells(source, seat), too_few(source, seat), with_least_cells(source, seat)), ((("b", 1),), ("a",), seat))

    def test_a_move_is_a_writer(self):
        source = source_from("a - x.1.2; b* - y.1.0 x.1.0")
        made = made_from("a; b m.1 | m x.1.1 a.1 | a m b | - | a -; b -; m - | a 2 1 1; b 0; m 5 209716 20 | a m")
        self.assertEqual([reads_by(source, made, name) for name in "abm"], [(("m", 1),), (), (("b", 1),)])
        self.assertEqual((least_cells(source, made), too_few(source, made)), ((("a", 2), ("m", 2)), ()))
        self.assertEqual(home_of(with_least_cells(source, made), "m"), ("cells", 2, 1, 1))
        loose = with_rows(made, (("a",), ("m",), ("b",)))
        self.assertEqual((least_cells(source, loose), with_least_cells(source, loose)), ((("a", None), ("m", None)), None))
        self.assertEqual(too_few(source, loose), ("a", "m"))

    def test_reads_by_of_a_stuck_made(self):
        source = source_from("a - x.1.0; b* - y.1.0 x.1.0")
        made = made_from("a; b a.0 | - | a; b | a b 0; b a 0 | a -; b - | a 2 1 1; b 0 | -")
        self.assertEqual([reads_by(source, made, name) for name in "ab"], [(("b", 0),), ()])
        self.assertEqual(kept_reads(source, made, ()), (("b", 0, "a", 0),))


class ErrorsTest(unittest.TestCase):

    def test_no_name_then_stuck(self):
        for waits in (STUCK, ()):
            for function, more in ((fold, ()), (is_enough, (1,)), (lost_read, (2,)), (waits_to_fold, (3,))):
                for name in ("z", "", "A", "ab"):
                    raises(self, f"NoName(name={name!r})", function, ROWS, waits, name, (("y", 0),), *more)
                    raises(self, f"NoName(name={name!r})", function, ROWS, waits, "a", (("a", 0), (name, 0), ("y", 0)), *more)
        for function, more in ((fold, ()), (is_enough, (1,)), (lost_read, (2,)), (waits_to_fold, (3,))):
            raises(self, "Stuck()", function, ROWS, STUCK, "a", (("b", 0),), *more)
            raises(self, "Stuck()", function, ROWS, STUCK, "a", (), *more)
        raises(self, "Stuck()", waits_to_fold, ROWS, STUCK, "a", (("c", 5),), 3)
        source = source_from("a - x.1.0; b* - y.1.0 x.1.0")
        made = made_from("a; b a.0 | - | a; b | a b 0; b a 0 | a -; b - | a 2 1 1; b 0 | -")
        for function in (least_cells, too_few, with_least_cells):
            raises(self, "Stuck()", function, source, made)
            call(self, function, source, with_waits(made, ()))
        for name in ("z", "", "A"):
            raises(self, f"NoName(name={name!r})", reads_by, source, made, name)
            raises(self, f"NoName(name={name!r})", reads_by, source, with_waits(made, ()), name)


class ExamplesTest(unittest.TestCase):

    def test_examples(self):
        check_examples(self, EXAMPLES, names_for("folds"))


if __name__ == "__main__":
    unittest.main()
