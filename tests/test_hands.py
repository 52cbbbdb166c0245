"""Hands [8], beside plain searches over all ways and rings of small rows and waits."""

import itertools
import unittest

from builtahead import hands
from builtahead.hands import (
    all_gaps, are_ranks, arrows, broken_duties, fewer_runs, gap, gap_way, gaps, is_ahead, is_gap_way, is_stuck,
    is_stuck_ring, least_gap, needed_waits, ranks, stuck_ring, waits_for,
)
from tests.tools import (
    call, check_examples, check_things, dice, made_of, raises, random_rows, random_waits, thing_variants,
)

EXAMPLES = """
    >>> rows, waits = (("a", "b"), ("c",)), (("a", "c", 0), ("c", "a", 1))
    >>> arrows(rows, waits), gap(rows, waits, "c", "b"), gap(rows, (), "a", "c"), gap_way(rows, waits, "a", "a"), is_ahead(rows, waits, "c", "b", 0), ranks(rows, waits)
    ((('a', 'b', 0), ('a', 'c', 0), ('b', 'a', 1), ('c', 'a', 1), ('c', 'c', 1)), 1, None, ('a', 'b', 'a'), False, (('a', 0), ('b', 1), ('c', 1)))
    >>> stuck_ring(rows, (("a", "c", 0), ("c", "a", 0))), needed_waits(rows, (("a", "c", 0), ("a", "c", 1), ("b", "c", 1), ("c", "a", 1))), broken_duties(rows, waits, (("b", "c", 0), ("b", "c", 1))), waits_for(rows, (("a", "c", 0), ("b", "c", 0)))
    (('a', 'c'), (('a', 'c', 0), ('c', 'a', 1)), (('b', 'c', 0),), (('b', 'c', 0),))
    >>> gap(rows, waits, "a", "d")
    raises NoName(name='d')
"""

ROWS, STUCK = (("a", "b"), (), ("c",)), (("a", "c", 0), ("c", "a", 0))


def arrows_by_hand(rows, waits):
    """All arrows, as [8] says them."""
    found = set(waits)
    for row in rows:
        for at, name in enumerate(row):
            found.add((name, row[at + 1], 0) if at + 1 < len(row) else (name, row[0], 1))
    return found


def least_by_hand(rows, waits):
    """The least number of an arrow between two names."""
    least = {}
    for first, later, number in arrows_by_hand(rows, waits):
        least[first, later] = min(number, least.get((first, later), number))
    return least


def all_ways(rows, waits, one, other):
    """All ways without a name twice, but one and other maybe the same, with their sums."""
    least = least_by_hand(rows, waits)
    names = [name for row in rows for name in row if name not in (one, other)]
    for many in range(len(names) + 1):
        for middle in itertools.permutations(names, many):
            way = (one, *middle, other)
            pieces = list(zip(way, way[1:]))
            if all(piece in least for piece in pieces):
                yield way, sum(least[piece] for piece in pieces)


def gap_by_hand(rows, waits, one, other):
    """The least sum of a way."""
    return min([total for _, total in all_ways(rows, waits, one, other)], default=None)


def rings_by_hand(rows, waits):
    """All rings of sum 0."""
    names, least = [name for row in rows for name in row], least_by_hand(rows, waits)
    for many in range(1, len(names) + 1):
        for ring in itertools.permutations(names, many):
            if ring[0] == min(ring) and all(least.get(piece) == 0 for piece in zip(ring, ring[1:] + ring[:1])):
                yield ring


def closure(rows, waits):
    """All distances, so that two sets of waits have the same RUNS exactly if theirs are the same."""
    names = [name for row in rows for name in row]
    return {(one, other): gap_by_hand(rows, waits, one, other) for one in names for other in names}


def some(seed, count, names="abcd", most=5, far=2):
    """Rows and waits of all kinds."""
    rng = dice(seed)
    for _ in range(count):
        rows = random_rows(rng, list(names[:rng.randint(1, len(names))]))
        yield rng, rows, random_waits(rng, [name for row in rows for name in row], most, far)


class GapTest(unittest.TestCase):

    def test_beside_all_ways(self):
        for rng, rows, waits in some(20, 250):
            names = sorted(name for row in rows for name in row)
            self.assertEqual(call(self, arrows, rows, waits), tuple(sorted(arrows_by_hand(rows, waits))))
            expected = closure(rows, waits)
            told = [(*pair, expected[pair]) for pair in sorted(expected) if expected[pair] is not None]
            self.assertEqual(call(self, all_gaps, rows, waits), tuple(told))
            made = made_of(rows, waits)
            self.assertEqual(call(self, gaps, made), tuple(told))
            for one in names:
                for other in names:
                    self.assertEqual(gap(rows, waits, one, other), expected[one, other])
                    self.assertEqual(least_gap(made, one, other), expected[one, other])
                    self.check_ways(rows, waits, one, other, expected[one, other])
            call(self, gap, rows, waits, names[0], names[-1])
            call(self, least_gap, made, names[0], names[-1])
            call(self, gap_way, rows, waits, names[-1], names[0])
            call(self, is_gap_way, rows, waits, names[-1], names[0], (names[-1], names[0]))

    def check_ways(self, rows, waits, one, other, distance):
        ways = list(all_ways(rows, waits, one, other))
        least = [way for way, total in ways if total == distance]
        expected = min(least, key=lambda way: (len(way), way), default=None)
        self.assertEqual(gap_way(rows, waits, one, other), expected)
        for way, total in ways:
            self.assertIs(is_gap_way(rows, waits, one, other, way), total == distance)
            self.assertIs(is_gap_way(rows, waits, one, other, list(way)), False)
        if expected is not None:
            for thing in thing_variants(expected):
                right = isinstance(thing, tuple) and len(thing) > 1 and all(isinstance(part, str) for part in thing)
                if right:
                    table = least_by_hand(rows, waits)
                    pieces = list(zip(thing, thing[1:]))
                    right = thing[0] == one and thing[-1] == other and all(piece in table for piece in pieces)
                    right = right and sum(table[piece] for piece in pieces) == distance
                self.assertIs(is_gap_way(rows, waits, one, other, thing), right)

    def test_a_way_may_go_round_where_the_sum_stays(self):
        rows, waits = (("a", "b"),), (("b", "a", 0),)
        self.assertEqual(gap(rows, waits, "a", "b"), 0)
        self.assertEqual(gap(rows, waits, "a", "a"), 0)
        self.assertIs(is_gap_way(rows, waits, "a", "b", ("a", "b", "a", "b")), True)
        self.assertEqual(gap_way(rows, waits, "a", "b"), ("a", "b"))
        self.assertEqual(gap_way(rows, waits, "a", "a"), ("a", "b", "a"))
        self.assertEqual(gap_way((("c",),), (), "c", "c"), ("c", "c"))
        self.assertIs(is_gap_way((("c",),), (), "c", "c", ("c", "c", "c")), False)
        self.assertIs(is_gap_way((("c",),), (), "c", "c", ("c",)), False)

    def test_no_way(self):
        self.assertIsNone(gap(ROWS, (), "a", "c"))
        self.assertIsNone(gap_way(ROWS, (), "a", "c"))
        self.assertIs(is_gap_way(ROWS, (), "a", "c", ("a", "c")), False)
        self.assertIs(is_ahead(ROWS, (), "a", "c", 10 ** 30), False)

    def test_twelve_names_and_far_waits(self):
        names = [letter * 2 for letter in "abcdefghijkl"]
        rows = (tuple(names[:1]), tuple(names[1:2]), tuple(names[2:]))
        waits = tuple(sorted([(names[0], names[1], 16), (names[1], names[2], 16), (names[11], names[0], 0)]))
        self.assertEqual(gap(rows, waits, names[0], names[11]), 32)
        self.assertEqual(gap_way(rows, waits, names[0], names[11]), tuple(names))
        self.assertEqual(gap(rows, waits, names[11], names[2]), 1)
        ring = tuple(sorted((one, other, 0) for one, other in zip(names, names[1:] + names[:1])))
        self.assertEqual(stuck_ring(tuple((name,) for name in names), ring), tuple(names))

    def test_no_name(self):
        for function, more in ((gap, ()), (gap_way, ()), (is_gap_way, ((),)), (is_ahead, (0,))):
            for waits in ((), STUCK):
                raises(self, "NoName(name='d')", function, ROWS, waits, "d", "e", *more)
                raises(self, "NoName(name='d')", function, ROWS, waits, "a", "d", *more)
                raises(self, "NoName(name='')", function, ROWS, waits, "", "a", *more)
                raises(self, "NoName(name='A b')", function, ROWS, waits, "a", "A b", *more)
        raises(self, "NoName(name='d')", least_gap, made_of(ROWS, ()), "d", "e")
        raises(self, "NoName(name='e')", least_gap, made_of(ROWS, ()), "a", "e")

    def test_odd_things(self):
        rows, waits = (("a", "b"), ("c",)), (("a", "a", 3), ("a", "c", 0))
        check_things(self, is_gap_way, (rows, waits, "a", "c"), lambda thing: False)
        check_things(self, is_gap_way, ((("a",),), (), "a", "a"), lambda thing: repr(thing) == "('a', 'a')")


class RingTest(unittest.TestCase):

    def test_beside_all_rings(self):
        found = 0
        for rng, rows, waits in some(21, 300, far=1):
            rings = list(rings_by_hand(rows, waits))
            found += len(rings) > 0
            self.assertIs(call(self, is_stuck, rows, waits), len(rings) > 0)
            expected = min(rings, key=lambda ring: (len(ring), ring), default=None)
            self.assertEqual(call(self, stuck_ring, rows, waits), expected)
            names = [name for row in rows for name in row]
            for many in range(len(names) + 1):
                for thing in itertools.product(names, repeat=many):
                    self.assertIs(is_stuck_ring(rows, waits, thing), thing in rings)
            if rings:
                for thing in thing_variants(rings[-1]):
                    self.assertIs(is_stuck_ring(rows, waits, thing), isinstance(thing, tuple) and thing in rings)
            call(self, is_stuck_ring, rows, waits, tuple(names))
        self.assertGreater(found, 60)

    def test_of_one_name(self):
        self.assertEqual(stuck_ring(ROWS, (("c", "c", 0),)), ("c",))
        self.assertIs(is_stuck_ring(ROWS, (("c", "c", 0),), ("c",)), True)
        self.assertIs(is_stuck_ring(ROWS, (("c", "c", 1),), ("c",)), False)
        check_things(self, is_stuck_ring, (ROWS, (("a", "a", 0),)), lambda thing: repr(thing) == "('a',)")
        check_things(self, is_stuck_ring, (ROWS, STUCK), lambda thing: False)

    def test_without_names(self):
        self.assertEqual((arrows(((),), ()), is_stuck(((),), ()), stuck_ring(((), ()), ())), ((), False, None))
        self.assertEqual((all_gaps(((),), ()), ranks(((),), ()), needed_waits(((),), ())), ((), (), ()))


class AheadTest(unittest.TestCase):

    def test_beside_the_distance(self):
        for rng, rows, waits in some(22, 100):
            names = sorted(name for row in rows for name in row)
            for one, other in itertools.product(names[:2], names[-2:]):
                if is_stuck(rows, waits):
                    raises(self, "Stuck()", is_ahead, rows, waits, one, other, 3)
                    continue
                distance = gap_by_hand(rows, waits, one, other)
                for turns in range(-2, 4):
                    expected = distance is not None and distance <= turns
                    self.assertIs(call(self, is_ahead, rows, waits, one, other, turns), expected)

    def test_stuck_behind_no_name(self):
        raises(self, "NoName(name='d')", is_ahead, ROWS, STUCK, "a", "d", 0)
        raises(self, "Stuck()", is_ahead, ROWS, STUCK, "a", "c", 0)
        raises(self, "Stuck()", is_ahead, ROWS, STUCK, "b", "b", -5)


class RanksTest(unittest.TestCase):

    def test_least_numbers(self):
        for rng, rows, waits in some(23, 200):
            if is_stuck(rows, waits):
                raises(self, "Stuck()", ranks, rows, waits)
                continue
            found = call(self, ranks, rows, waits)
            numbers, many = dict(found), sum(len(row) for row in rows)
            self.assertEqual([name for name, _ in found], sorted(numbers))
            self.assertEqual(len(numbers), many)
            for first, later, number in arrows_by_hand(rows, waits):
                self.assertGreaterEqual(numbers[later], numbers[first] + 1 - number * many)
            # Each number above 0 is there because of an arrow, so no lesser ones will do.
            for name in numbers:
                reasons = [numbers[s] + 1 - d * many for s, t, d in arrows_by_hand(rows, waits) if t == name]
                self.assertEqual(numbers[name], max([0, *reasons]))
            self.check_things(rows, waits, found, many)

    def check_things(self, rows, waits, found, many):
        self.assertIs(call(self, are_ranks, rows, waits, found), True)
        self.assertIs(are_ranks(rows, waits, tuple((name, number + 10 ** 40) for name, number in found)), True)
        self.assertIs(are_ranks(rows, waits, list(found)), False)
        self.assertIs(are_ranks(rows, waits, found[::-1]), len(found) < 2)
        self.assertIs(are_ranks(rows, waits, found[1:]), False)
        self.assertIs(are_ranks(rows, waits, (*found, ("zz", 0))), False)
        arrowed = arrows_by_hand(rows, waits)
        for thing in thing_variants(found):
            right = isinstance(thing, tuple) and len(thing) == many and all(
                isinstance(part, tuple) and len(part) == 2 and type(part[1]) is int and part[1] >= 0 for part in thing
            ) and [part[0] for part in thing] == [part[0] for part in found]
            if right:
                told = dict(thing)
                right = all(told[t] >= told[s] + 1 - d * many for s, t, d in arrowed)
            self.assertIs(are_ranks(rows, waits, thing), right, thing)

    def test_stuck_ones_have_none(self):
        self.assertIs(are_ranks(ROWS, STUCK, (("a", 0), ("b", 1), ("c", 1))), False)
        raises(self, "Stuck()", ranks, ROWS, STUCK)

    def test_odd_things(self):
        check_things(self, are_ranks, ((("a",),), ()), lambda thing: repr(thing) == "(('a', 0),)")
        check_things(self, are_ranks, ((("a",),), (("a", "a", 0),)), lambda thing: False)

    def test_they_make_a_run(self):
        rows, waits = (("a", "b"), ("c", "d")), (("a", "d", 1), ("b", "c", 0), ("d", "b", 2))
        numbers = dict(ranks(rows, waits))
        order = sorted((numbers[name] + turn * 4, name, turn) for name in numbers for turn in range(4))
        place = {(name, turn): at for at, (_, name, turn) in enumerate(order)}
        for first, later, number in arrows_by_hand(rows, waits):
            for turn in range(4 - number):
                self.assertLess(place[first, turn], place[later, turn + number])


class WaitsTest(unittest.TestCase):

    def test_fewest(self):
        seen = 0
        for rng, rows, waits in some(24, 160, names="abc", most=5, far=2):
            if list(rings_by_hand(rows, waits)):
                raises(self, "Stuck()", needed_waits, rows, waits)
                self.assertIsNone(call(self, waits_for, rows, waits))
                continue
            seen += 1
            same = [part for part in self.parts(waits) if closure(rows, part) == closure(rows, waits)]
            fewest = min(same, key=len)
            self.assertEqual([part for part in same if len(part) == len(fewest)], [fewest])
            self.assertEqual(call(self, needed_waits, rows, waits), fewest)
            self.assertEqual(call(self, waits_for, rows, waits), fewest)
            self.assertTrue(all(set(fewest) <= set(part) for part in same))
        self.assertGreater(seen, 50)

    def parts(self, waits):
        return [part for many in range(len(waits) + 1) for part in itertools.combinations(waits, many)]

    def test_fewer_runs_and_duties(self):
        for rng, rows, waits in some(25, 200):
            names = [name for row in rows for name in row]
            other = random_waits(rng, names, 3, 2)
            expected = [wait for wait in other if not self.holds(rows, waits, wait)]
            self.assertEqual(call(self, broken_duties, rows, waits, other), tuple(expected))
            if is_stuck(rows, waits) or is_stuck(rows, other):
                raises(self, "Stuck()", fewer_runs, rows, waits, other)
            else:
                self.assertIs(call(self, fewer_runs, rows, waits, other), expected == [])
                self.assertIs(fewer_runs(rows, waits, waits), True)
                self.assertIs(fewer_runs(rows, waits, ()), True)

    def holds(self, rows, waits, wait):
        distance = gap_by_hand(rows, waits, wait[0], wait[1])
        return distance is not None and distance <= wait[2]

    def test_stuck(self):
        raises(self, "Stuck()", fewer_runs, ROWS, STUCK, ())
        raises(self, "Stuck()", fewer_runs, ROWS, (), STUCK)
        raises(self, "Stuck()", needed_waits, ROWS, STUCK)
        self.assertIsNone(waits_for(ROWS, STUCK))
        self.assertEqual(broken_duties(ROWS, STUCK, STUCK), ())
        self.assertEqual(broken_duties(ROWS, (), STUCK), STUCK)
        self.assertEqual(needed_waits(ROWS, (("a", "b", 0), ("b", "a", 1), ("b", "b", 2))), ())


class ExamplesTest(unittest.TestCase):

    def test_examples(self):
        check_examples(self, EXAMPLES, vars(hands))


if __name__ == "__main__":
    unittest.main()
