"""Two MADES [24], beside ALL sets of buffers and drawn WIDTHS."""

import itertools
import unittest
from fractions import Fraction

from builtahead.buffers import buffers, extent, is_chained
from builtahead.hands import is_stuck
from builtahead.mades import made_from, names_in, with_home, with_waits
from builtahead.times import never_later
from builtahead.twomades import (
    chain_of_buffers, is_beaten, is_widths_apart, peak_ratio, unbeaten, widths_apart,
)
from tests.tools import (
    ODD_THINGS, all_subsets, call, check_examples, dice, made_of, names_for, raises, random_rows, random_waits, thing_variants,
)
from tests.worlds import buffer, random_order

EXAMPLES = """
    >>> tall = made_from("x; y; z | - | x y z | - | x -; y -; z - | x 1 1 0; y 1 1 0; z 0 | x y")
    >>> flat = made_from("x; y; z | - | x y z | - | x -; y -; z - | x 3 699051 21; y 3 699051 21; z 5 | -")
    >>> peak_ratio(tall, flat), chain_of_buffers(tall, flat), peak_ratio(flat, tall), chain_of_buffers(flat, tall), widths_apart(tall, flat)
    ((2, 3), ('x', 'y'), (3, 1), ('x',), None)
    >>> is_widths_apart(flat, tall, (("x", 9), ("y", 1))), is_widths_apart(flat, tall, widths_apart(flat, tall)), is_beaten(flat, tall), unbeaten((flat, tall, tall))
    (True, True, True, (1, 2))
"""

TALL = made_from("x; y; z | - | x y z | - | x -; y -; z - | x 1 1 0; y 1 1 0; z 0 | x y")
FLAT = made_from("x; y; z | - | x y z | - | x -; y -; z - | x 3 699051 21; y 3 699051 21; z 5 | -")
STUCK = with_waits(TALL, (("y", "x", 0),))


def random_one(rng, names):
    """A MADE of these names, most of them with buffers, not stuck."""
    while True:
        made = made_of(random_rows(rng, list(names)), random_waits(rng, names, rng.choice([0, 1, 3]), 2))
        if not is_stuck(made[2], made[3]):
            break
    for name in names:
        made = with_home(made, name, buffer(rng.choice([1, 1, 2, 3, 4, 6])) if rng.random() < 0.8 else ("seat", rng.randint(0, 3)))
    return (*made[:6], random_order(rng, [name for name, _ in buffers(made)]))


def some(seed, count, same=0.6):
    rng = dice(seed)
    for _ in range(count):
        names = "abcde"[:rng.randint(1, 5)]
        one, other = random_one(rng, names), random_one(rng, names)
        if rng.random() < same:
            for name, _ in buffers(one):
                other = with_home(other, name, buffer(rng.choice([1, 2, 3, 4, 6])))
            other = (*other[:6], random_order(rng, [name for name, _ in buffers(other)]))
        yield rng, one, other


def cells(made):
    return dict(buffers(made))


def odd_sets(one, other):
    """The odd sets with their shares, as [24] says them."""
    both = [name for name in cells(one) if name in cells(other)]
    return {
        part: sum((Fraction(cells(one)[name], cells(other)[name]) for name in part), Fraction(0)) for part in all_subsets(both)
        if all(is_chained(one[6], *pair) and not is_chained(other[6], *pair) for pair in itertools.combinations(part, 2))
    }


def own(made, widths):
    """The WIDTHS of the buffers of this MADE alone."""
    return tuple(pair for pair in widths if pair[0] in cells(made))


def is_apart(one, other, widths):
    return extent(one, own(one, widths)) > extent(other, own(other, widths))


def all_boxes(one, other):
    return sorted({**cells(one), **cells(other)})


class RatioTest(unittest.TestCase):

    def test_beside_all_sets(self):
        counts = {"none": 0, "above": 0, "below": 0, "several": 0, "nothing": 0}
        for rng, one, other in some(190, 400):
            ratio, part = call(self, peak_ratio, one, other), call(self, chain_of_buffers, one, other)
            if any(name not in cells(other) for name in cells(one)):
                self.assertEqual((ratio, part), (None, None))
                counts["none"] += 1
                continue
            shares = odd_sets(one, other)
            most = max(shares.values())
            self.assertEqual(ratio, (most.numerator, most.denominator))
            self.assertEqual(part, min(found for found in shares if shares[found] == most))
            counts["nothing" if part == () else "several" if len(part) > 1 else "above" if most > 1 else "below"] += 1
        self.assertGreater(min(counts.values()), 15, counts)

    def test_guarantee_over_drawn_widths(self):
        near = 0
        for rng, one, other in some(191, 150, 1):
            ratio = Fraction(*peak_ratio(one, other))
            for _ in range(15):
                widths = tuple((name, rng.choice([1, 2, 3, 10, 64, 10 ** 6])) for name in all_boxes(one, other))
                self.assertLessEqual(extent(one, own(one, widths)), ratio * extent(other, own(other, widths)))
            part = chain_of_buffers(one, other)
            if part:
                # As near to it as one likes.
                scale = 10 ** 6 * 12
                widths = tuple((name, scale // cells(other)[name] if name in part else 1) for name in all_boxes(one, other))
                near += len(part) > 1
                self.assertGreater(extent(one, own(one, widths)), (ratio - Fraction(1, 1000)) * extent(other, own(other, widths)))
        self.assertGreater(near, 10)

    def test_edges(self):
        none = with_home(with_home((*TALL[:6], ()), "x", ("seat", 1)), "y", ("seat", 2))
        self.assertEqual((peak_ratio(none, TALL), chain_of_buffers(none, TALL), widths_apart(none, TALL)), ((0, 1), (), None))
        self.assertEqual((peak_ratio(TALL, none), chain_of_buffers(TALL, none)), (None, None))
        self.assertEqual((peak_ratio(none, none), widths_apart(none, none)), ((0, 1), None))
        self.assertEqual((peak_ratio(TALL, TALL), chain_of_buffers(TALL, TALL), widths_apart(TALL, TALL)), ((1, 1), ("x",), None))
        loose = (*TALL[:6], ())
        self.assertEqual((peak_ratio(TALL, loose), chain_of_buffers(TALL, loose)), ((2, 1), ("x", "y")))
        self.assertEqual((peak_ratio(loose, TALL), chain_of_buffers(loose, TALL)), ((1, 1), ("x",)))


class ApartTest(unittest.TestCase):

    def test_judged(self):
        counts = {"lacks": 0, "apart": 0, "none": 0, True: 0, False: 0}
        for rng, one, other in some(192, 300):
            widths = call(self, widths_apart, one, other)
            lacks = any(name not in cells(other) for name in cells(one))
            shares = odd_sets(one, other)
            self.assertEqual(widths is None, not lacks and max(shares.values()) <= 1)
            counts["lacks" if lacks else "none" if widths is None else "apart"] += 1
            if widths is not None:
                self.assertEqual([name for name, _ in widths], all_boxes(one, other))
                self.assertIs(is_apart(one, other, widths), True)
                self.assertIs(call(self, is_widths_apart, one, other, widths), True)
            for _ in range(6):
                drawn = tuple((name, rng.choice([1, 2, 5, 64, 10 ** 40])) for name in all_boxes(one, other))
                found = is_apart(one, other, drawn)
                counts[found] += 1
                self.assertIs(is_widths_apart(one, other, drawn), found)
                self.assertTrue(widths is not None or not found)
        self.assertGreater(min(counts.values()), 20, counts)

    def test_bent_ones(self):
        self.assertIs(is_widths_apart(FLAT, TALL, (("x", 1), ("y", 1))), True)
        for thing in [
            *thing_variants((("x", 1), ("y", 1))), *ODD_THINGS, (("x", 1),), (("x", 1), ("y", 1), ("z", 1)), (("y", 1), ("x", 1)),
            (("x", 0), ("y", 1)), (("x", True), ("y", 1)), (("x", 1), ("y", "1")), [("x", 1), ("y", 1)], (["x", 1], ("y", 1)),
        ]:
            self.assertIs(is_widths_apart(FLAT, TALL, thing), False, thing)
        self.assertIs(is_widths_apart(TALL, FLAT, (("x", 9), ("y", 9))), False)
        # A buffer of other alone has a width, too, but counts for other alone.
        more = with_home(TALL, "z", buffer(1))
        self.assertIs(is_widths_apart(FLAT, more, (("x", 1), ("y", 1), ("z", 2))), True)
        self.assertIs(is_widths_apart(FLAT, more, (("x", 1), ("y", 1), ("z", 3))), False)
        self.assertIs(is_widths_apart(FLAT, more, (("x", 1), ("y", 1))), False)
        self.assertIs(is_widths_apart(more, FLAT, (("x", 1), ("y", 1), ("z", 4))), True)


class BeatenTest(unittest.TestCase):

    def seats(self, made):
        return len({home[1] for _, home in made[5] if home[0] == "seat"})

    def is_as_good(self, made, other):
        """Whether the first one is as good as the other one, as [24] says it."""
        if not set(names_in(made)) <= set(names_in(other)) or not never_later(made, other):
            return False
        if any(name not in cells(other) for name in cells(made)) or max(odd_sets(made, other).values()) > 1:
            return False
        return self.seats(made) <= self.seats(other)

    def changed(self, rng, made):
        """A MADE that is not far from this one."""
        names, start = names_in(made), made
        kind = rng.randint(0, 3)
        if kind == 0:
            made = with_waits(made, made[3] + random_waits(rng, names, 2, 2))
        elif kind == 1:
            name = rng.choice(names)
            made = (*made[:6], tuple(pair for pair in made[6] if name not in pair))
            made = with_home(made, name, rng.choice([buffer(rng.randint(1, 3)), ("seat", rng.randint(0, 3))]))
        elif kind == 2:
            made = (*made[:6], made[6][1:])
        elif len(names) > 1:
            name = rng.choice(names)
            rows = tuple(tuple(part for part in row if part != name) for row in made[2])
            made = (
                tuple(step for step in made[0] if step[0] != name), (), rows, tuple(wait for wait in made[3] if name not in wait[:2]),
                tuple(pair for pair in made[4] if pair[0] != name), tuple(pair for pair in made[5] if pair[0] != name),
                tuple(pair for pair in made[6] if name not in pair),
            )
        return start if is_stuck(made[2], made[3]) else made

    def test_beside_its_parts(self):
        counts = {"better": 0, "worse": 0, "alike": 0, "apart": 0}
        rng = dice(193)
        for _ in range(400):
            one = random_one(rng, "abcd"[:rng.randint(1, 4)])
            other = self.changed(rng, one)
            there, back = self.is_as_good(other, one), self.is_as_good(one, other)
            counts["better" if there and not back else "worse" if back and not there else "alike" if there else "apart"] += 1
            self.assertIs(call(self, is_beaten, one, other), there and not back)
            self.assertIs(is_beaten(other, one), back and not there)
        self.assertGreater(min(counts.values()), 20, counts)

    def test_unbeaten_of_several(self):
        sizes = {}
        rng = dice(194)
        for _ in range(100):
            mades = [random_one(rng, "abc")]
            while len(mades) < rng.randint(1, 8):
                mades.append(self.changed(rng, rng.choice(mades)))
            expected = tuple(
                at for at, made in enumerate(mades)
                if not any(self.is_as_good(other, made) and not self.is_as_good(made, other) for other in mades)
            )
            self.assertEqual(call(self, unbeaten, tuple(mades)), expected)
            self.assertNotEqual(expected, ())
            sizes[len(mades) - len(expected)] = sizes.get(len(mades) - len(expected), 0) + 1
        self.assertGreater(min(sizes[many] for many in (0, 1, 2)), 5, sizes)
        self.assertEqual(call(self, unbeaten, ()), ())
        self.assertEqual(unbeaten((TALL,)), (0,))

    def test_each_part_alone(self):
        base = made_from("x; y; z | - | x; y z | x y 0 | x -; y -; z - | x 2 1 1; y 1 1 0; z 0 | x y")
        for better in [
            made_from("x; z | - | x; z | - | x -; z - | x 2 1 1; z 0 | -"), with_waits(base, ()), (*base[:6], ()),
            with_home(base, "x", buffer(1)), with_home((*base[:6], ()), "y", ("seat", 0)),
        ]:
            self.assertIs(call(self, is_beaten, base, better), True)
            self.assertIs(call(self, is_beaten, better, base), False)
        # One seat more, in the place of a buffer.
        other = with_home((*base[:6], ()), "y", ("seat", 1))
        self.assertEqual((is_beaten(base, other), is_beaten(other, base)), (False, False))

    def test_stuck(self):
        # Ahead of all else, also if names are lacking.
        small = made_from("w | - | w | - | w - | w 0 | -")
        for one, other in ((STUCK, TALL), (TALL, STUCK), (STUCK, small), (small, STUCK)):
            raises(self, "Stuck()", is_beaten, one, other)
            raises(self, "Stuck()", unbeaten, (one, other))
        raises(self, "Stuck()", unbeaten, (TALL, FLAT, small, STUCK))
        for function in (peak_ratio, chain_of_buffers, widths_apart):
            call(self, function, STUCK, TALL)
        self.assertEqual((is_beaten(small, TALL), is_beaten(TALL, small)), (False, False))


class ExamplesTest(unittest.TestCase):

    def test_examples(self):
        check_examples(self, EXAMPLES, names_for("twomades"))


if __name__ == "__main__":
    unittest.main()
