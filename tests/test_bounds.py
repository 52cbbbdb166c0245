"""Bounds of buffers [23], in their own words and beside ALL ORDERS."""

import itertools
import unittest

from builtahead.bounds import (
    bound_pairs, floor_of, is_enough_order, is_least_order, least_extent, least_order,
)
from builtahead.buffers import extent, is_chained, is_order
from builtahead.flows import all_conditions
from builtahead.hands import is_stuck, least_gap
from builtahead.lastword import is_right
from builtahead.mades import is_done, made_from, names_in, plain_made, with_home, with_mask, with_rows, with_waits
from builtahead.sources import source_from
from tests.tools import ODD_THINGS, all_subsets, call, check_examples, dice, names_for, raises, thing_variants
from tests.worlds import HandWord, buffer, even_source, near_made, random_made, random_order, safe_made

EXAMPLES = """
    >>> source, widths = source_from("load - x.1.0 p.1.0; mul - y.1.0 x.1.0; add* - s.0.0 s.0.0 y.1.0"), (("load", 3), ("mul", 5))
    >>> two = made_from("add add.1, mul.0; load -; mul load.0 | - | load; mul add | load mul 0; mul load 1 | add -; load -; mul - | add 0; load 1 1 0; mul 1 1 0 | -")
    >>> one = two[:2] + ((("load", "mul", "add"),), ()) + two[4:]
    >>> bound_pairs(source, one), bound_pairs(source, two), is_enough_order(source, one, ()), is_enough_order(source, two, ()), floor_of(source, one, widths), floor_of(source, two, widths)
    ((), (('load', 'mul'),), True, False, 5, 8)
    >>> least_extent(source, one, widths), least_extent(source, two, widths), is_least_order(source, two, widths, (("mul", "load"),)), is_least_order(source, one, widths, (("load", "mul"),))
    (5, 8, True, False)
"""

SOURCE = source_from("load - x.1.0 p.1.0; mul - y.1.0 x.1.0; add* - s.0.0 s.0.0 y.1.0")
TWO = made_from("add add.1, mul.0; load -; mul load.0 | - | load; mul add | load mul 0; mul load 1 | add -; load -; mul - | add 0; load 1 1 0; mul 1 1 0 | -")
STUCK = with_waits(TWO, (("load", "mul", 0), ("mul", "load", 0)))


def boxes_of(made):
    return [name for name, home in made[5] if home[0] == "cells"]


def some(seed, count, most=4):
    """MADES that are not stuck, right or not, most of their names with buffers."""
    rng = dice(seed)
    while count:
        source = even_source(rng, most, "xyz", (0, 1, 1), 2)
        made = rng.choice([random_made, safe_made, near_made, near_made])(rng, source)
        if rng.random() < 0.5:
            for name in names_in(made):
                made = with_home(made, name, buffer(rng.randint(1, 3)))
            made = (*made[:6], random_order(rng, boxes_of(made)))
        if not is_stuck(made[2], made[3]) and len(boxes_of(made)) < 6:
            count -= 1
            yield rng, source, made


def some_widths(rng, made):
    return tuple((name, rng.choice([1, 1, 2, 3, 5, 9])) for name in boxes_of(made))


def bound_by_hand(source, made):
    """The bound pairs, as [23] says them."""
    found = set()
    for conditions in all_conditions(source):
        for reader, _, writer, back in HandWord(source, made, conditions).kept:
            for other in boxes_of(made):
                if writer not in boxes_of(made) or other == writer:
                    continue
                if not (is_done(made, other, conditions) and is_done(made, writer, conditions)):
                    continue
                there = 0 if reader == other else least_gap(made, reader, other)
                on = least_gap(made, other, writer)
                if there is None or on is None or there + on + back > 1:
                    found.add(tuple(sorted((other, writer))))
    return tuple(sorted(found))


def all_orders(names):
    """ALL ORDERS of these names."""
    pairs = list(itertools.combinations(sorted(names), 2))
    for turns in itertools.product((0, 1, 2), repeat=len(pairs)):
        order = tuple(sorted(pair if turn == 1 else pair[::-1] for pair, turn in zip(pairs, turns) if turn))
        if not any(is_chained(order, name, name) for name in names):
            yield order


def chains_all(order, pairs):
    return all(is_chained(order, *pair) for pair in pairs)


class BoundTest(unittest.TestCase):

    def test_in_the_words(self):
        counts = {"bound": 0, "free": 0, "conditions": 0, "moves": 0}
        for rng, source, made in some(180, 250):
            pairs = call(self, bound_pairs, source, made)
            self.assertEqual(pairs, bound_by_hand(source, made))
            counts["bound"] += len(pairs)
            counts["free"] += len(boxes_of(made)) > 1 and pairs == ()
            counts["conditions"] += pairs != () and len(all_conditions(source)) > 1
            counts["moves"] += any(name in pair for pair in pairs for name, _, _ in made[1])
            for order in rng.sample(list(all_orders(boxes_of(made)[:3])), 1) + [made[6], ()]:
                self.assertIs(call(self, is_enough_order, source, made, order), chains_all(order, pairs))
        self.assertGreater(min(counts.values()), 5, counts)

    def test_together_by_some_conditions(self):
        source = source_from("a +c x.0.0; b - y.0.0; d* - z.1.0 x.0.0 y.0.0")
        made = made_from("a; b; d c? a.1 a.0, b.0 | - | a b; d | a d 0; b d 0; d a 1; d b 1 | a c; b -, c; d -, c | a 1 1 0; b 1 1 0; d 0 | -")
        self.assertEqual(bound_pairs(source, made), (("a", "b"),))
        # Never done by the same CONDITIONS they may lie in the same units.
        self.assertEqual(bound_pairs(source, with_mask(made, "b", ((),))), ())
        self.assertEqual(bound_pairs(source, with_mask(made, "b", (("c",),))), (("a", "b"),))
        near = with_rows(made, (("a", "b", "d"),))
        self.assertEqual(bound_pairs(source, near), (("a", "b"),))
        # What b reads first, and nobody later, b may write over.
        source = source_from("a - x.0.0; b - y.0.0 x.0.0; d* - z.1.0 y.0.0")
        made = plain_made(source)
        self.assertEqual(bound_pairs(source, made), ())
        self.assertEqual(bound_pairs(source, with_rows(made, (("a", "b"), ("d",)))), (("a", "b"), ("a", "d"), ("b", "d")))

    def test_right_exactly_with_an_order_that_is_enough(self):
        counts = {True: 0, False: 0}
        for rng, source, made in some(181, 400):
            if not is_right(source, made) or len(boxes_of(made)) < 2:
                continue
            self.assertIs(is_enough_order(source, made, made[6]), True)
            orders = list(all_orders(boxes_of(made)[:4]))
            for order in rng.sample(orders, min(len(orders), 8)):
                enough = is_enough_order(source, made, order)
                counts[enough] += 1
                self.assertIs(is_right(source, (*made[:6], order)), enough, (source, made, order))
        self.assertGreater(min(counts.values()), 60, counts)


class ExtentTest(unittest.TestCase):

    def test_floor_beside_all_sets(self):
        sizes = {}
        for rng, source, made in some(182, 300):
            pairs, widths = bound_pairs(source, made), some_widths(rng, made)
            size = {name: width * home[1] for (name, width), (_, home) in zip(widths, [pair for pair in made[5] if pair[1][0] == "cells"])}
            sets = [part for part in all_subsets(boxes_of(made)) if all(pair in pairs for pair in itertools.combinations(part, 2))]
            expected = max(sum(size[name] for name in part) for part in sets)
            self.assertEqual(call(self, floor_of, source, made, widths), expected)
            most = max(len(part) for part in sets if sum(size[name] for name in part) == expected)
            sizes[most] = sizes.get(most, 0) + 1
        self.assertGreater(min(sizes[many] for many in (0, 1, 2, 3)), 3, sizes)

    def test_beside_all_orders(self):
        counts = {"pairs": 0, "none": 0}
        for rng, source, made in some(183, 200):
            boxes = boxes_of(made)
            if len(boxes) > 4 or (len(boxes) == 4 and rng.random() < 0.7):
                continue
            pairs, widths = bound_pairs(source, made), some_widths(rng, made)
            orders = [order for order in all_orders(boxes) if chains_all(order, pairs)]
            extents = {order: extent((*made[:6], order), widths) for order in orders}
            least = min(extents.values())
            self.assertEqual(call(self, least_extent, source, made, widths), least)
            self.assertGreaterEqual(least, floor_of(source, made, widths))
            counts["none" if pairs == () else "pairs"] += 1
            found = call(self, least_order, source, made, widths)
            self.assertEqual(extents[found], least)
            self.assertIs(call(self, is_least_order, source, made, widths, found), True)
            for order in rng.sample(orders, min(len(orders), 10)):
                self.assertIs(is_least_order(source, made, widths, order), extents[order] == least)
            for thing in rng.sample(thing_variants(found), min(8, len(thing_variants(found)))) + [found[::-1], None, [], ((),)]:
                right = [repr(order) for order in extents if extents[order] == least]
                expected = repr(thing) in right and is_order(made, thing)
                self.assertIs(is_least_order(source, made, widths, thing), expected, thing)
        self.assertGreater(min(counts.values()), 15, counts)

    def test_the_least_extent_may_be_above_the_floor(self):
        # Of five buffers each one is done together with two others alone: a ring of bound pairs.
        text = "; ".join(f"{name}* - {name}.1.1 {name}.1.0" for name in "abcde") + "; g +p g.1.0; h +q h.1.0; i +r i.1.0"
        source = source_from(text)
        every = all_conditions(source)
        made = plain_made(source)
        for number, name in enumerate("abcde"):
            made = with_mask(made, name, tuple(sorted([every[number], every[(number + 1) % 5]])))
        made = (*made[:5], tuple((name, home if name in "abcde" else ("seat", 0)) for name, home in made[5]), ())
        self.assertEqual(bound_pairs(source, made), (("a", "b"), ("a", "e"), ("b", "c"), ("c", "d"), ("d", "e")))
        for numbers, floor, least in [((1, 1, 1, 1, 1), 2, 3), ((3, 1, 1, 1, 1), 4, 4), ((2, 2, 2, 2, 1), 4, 5), ((5, 3, 4, 3, 4), 9, 10)]:
            widths = tuple(zip("abcde", numbers))
            self.assertEqual((floor_of(source, made, widths), call(self, least_extent, source, made, widths)), (floor, least), numbers)
            found = least_order(source, made, widths)
            self.assertIs(is_least_order(source, made, widths, found), True)
            self.assertEqual(extent((*made[:6], found), widths), least)

    def test_other_orders_of_four(self):
        source = source_from("a - x.0.0; b* - y.0.0 x.0.0; d - z.0.0 y.0.0; e* - w.0.0 z.0.0")
        tried = set()
        rng = dice(184)
        for _ in range(300):
            rows = tuple(tuple(row) for row in rng.choice([["abde"], ["ab", "de"], ["a", "bde"], ["ad", "be"], ["a", "b", "de"], ["abd", "e"]]))
            made = with_rows(plain_made(source), rows)
            waits = tuple(sorted({(rng.choice("abde"), rng.choice("abde"), rng.randint(0, 1)) for _ in range(3)}))
            made = with_waits(made, waits)
            if is_stuck(made[2], made[3]):
                continue
            pairs = bound_pairs(source, made)
            if pairs in tried:
                continue
            tried.add(pairs)
            widths = tuple((name, rng.randint(1, 4)) for name in "abde")
            orders = [order for order in all_orders("abde") if chains_all(order, pairs)]
            self.assertEqual(least_extent(source, made, widths), min(extent((*made[:6], order), widths) for order in orders))
        self.assertGreater(len(tried), 4, tried)

    def test_right_mades_need_at_least_the_floor(self):
        many = 0
        for rng, source, made in some(185, 250):
            if is_right(source, made):
                widths = some_widths(rng, made)
                many += boxes_of(made) != []
                self.assertGreaterEqual(extent(made, widths), floor_of(source, made, widths))
                self.assertGreaterEqual(extent(made, widths), least_extent(source, made, widths))
                least = (*made[:6], least_order(source, made, widths))
                self.assertEqual((is_right(source, least), extent(least, widths)), (True, least_extent(source, made, widths)))
        self.assertGreater(many, 40)

    def test_five_buffers_and_none(self):
        source = source_from("; ".join(f"{name}* - {name}.1.1 {name}.1.0" for name in "abcde"))
        made, widths = plain_made(source), tuple((name, 10 ** 30 + number) for number, name in enumerate("abcde"))
        self.assertEqual(bound_pairs(source, made), tuple(itertools.combinations("abcde", 2)))
        whole = sum(width for _, width in widths)
        self.assertEqual((floor_of(source, made, widths), least_extent(source, made, widths)), (whole, whole))
        self.assertIs(is_least_order(source, made, widths, made[6]), True)
        self.assertIs(is_least_order(source, made, widths, made[6][1:]), False)
        none = (*made[:5], tuple((name, ("seat", number)) for number, name in enumerate("abcde")), ())
        self.assertEqual((bound_pairs(source, none), floor_of(source, none, ()), least_extent(source, none, ()), least_order(source, none, ())), ((), 0, 0, ()))
        for thing in ODD_THINGS:
            self.assertIs(is_least_order(source, none, (), thing), repr(thing) == "()")
            self.assertIs(is_least_order(source, made, widths, thing), False)


class ErrorsTest(unittest.TestCase):

    def test_stuck_ahead_of_all_else(self):
        widths = (("load", 3), ("mul", 5))
        uneven = source_from("load - x.1.0 p.1.0; mul - y.1.0 x.2.0; add* - s.0.0 s.0.0 y.1.0")
        for source in (SOURCE, uneven):
            raises(self, "Stuck()", bound_pairs, source, STUCK)
            raises(self, "Stuck()", is_enough_order, source, STUCK, ())
            for function in (floor_of, least_extent, least_order):
                raises(self, "Stuck()", function, source, STUCK, widths)
            for thing in (None, (), 7):
                raises(self, "Stuck()", is_least_order, source, STUCK, widths, thing)


class ExamplesTest(unittest.TestCase):

    def test_examples(self):
        check_examples(self, EXAMPLES, names_for("bounds"))


if __name__ == "__main__":
    unittest.main()
