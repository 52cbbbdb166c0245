"""Buffers [12], beside laying them one by one."""

import itertools
import unittest

from builtahead.buffers import (
    bases, buffers, cell_span, extent, is_chained, is_meeting_widths, is_order, is_widths, may_meet, meeting_widths,
)
from builtahead.mades import made_from
from tests.tools import call, check_examples, check_things, dice, names_for, raises, thing_variants
from tests.worlds import buffer, laid, random_order

EXAMPLES = """
    >>> made = made_from("a; b; c | - | a b c | - | a -; b -; c - | a 0; b 1 1 0; c 2 1 1 | b c")
    >>> flat, widths = made[:6] + ((),), (("b", 3), ("c", 5))
    >>> buffers(made), bases(made, widths), extent(made, widths), extent(flat, widths), cell_span(made, widths, "c", 7), may_meet(made, "b", "c"), may_meet(flat, "b", "c")
    ((('b', 1), ('c', 2)), (('b', 0), ('c', 3)), 13, 10, (8, 13), False, True)
    >>> meeting_widths(made, "b", 0, "c", 3), is_meeting_widths(flat, "b", 0, "c", 3, widths), is_meeting_widths(flat, "b", 0, "c", 3, meeting_widths(flat, "b", 0, "c", 3))
    (None, False, True)
    >>> cell_span(made, widths, "a", 0)
    raises NoName(name='a')
"""

NAMES = "abcde"


def made_with(homes, order):
    """A MADE of steps without reads with these homes and this order."""
    names = sorted(homes)
    steps, masks = tuple((name, ()) for name in names), tuple((name, ((),)) for name in names)
    return steps, (), (tuple(names),), (), masks, tuple(sorted(homes.items())), order


def some(seed, count, most_cells=4):
    """MADES with seats and buffers."""
    rng = dice(seed)
    for _ in range(count):
        names = NAMES[:rng.randint(1, len(NAMES))]
        homes = {name: buffer(rng.randint(1, most_cells)) if rng.random() < 0.75 else ("seat", rng.randint(0, 2)) for name in names}
        yield rng, made_with(homes, random_order(rng, [name for name in names if homes[name][0] == "cells"]))


def boxes_of(made):
    return {name: home[1] for name, home in made[5] if home[0] == "cells"}


def random_widths(rng, made):
    return tuple((name, rng.choice([1, 2, 3, 64])) for name in sorted(boxes_of(made)))


def leads(order, one, other):
    """Whether one pair or more lead from one to other, tried way by way."""
    names = {name for pair in order for name in pair}
    return any(
        all(pair in order for pair in zip((one, *middle), (*middle, other)))
        for many in range(len(names) + 1) for middle in itertools.permutations(names, many)
    )


class LaidTest(unittest.TestCase):

    def test_one_by_one(self):
        for rng, made in some(71, 150):
            cells, widths = boxes_of(made), random_widths(rng, made)
            begins = laid(made, widths)
            self.assertEqual(call(self, buffers, made), tuple(sorted(cells.items())))
            self.assertEqual(call(self, bases, made, widths), tuple(sorted(begins.items())))
            ends = [begins[name] + cells[name] * width for name, width in widths]
            self.assertEqual(call(self, extent, made, widths), max(ends, default=0))
            for name, width in widths:
                turn = rng.choice([0, 1, 2, 7, 10 ** 6 - 1, 10 ** 30])
                first = begins[name] + turn % cells[name] * width
                self.assertEqual(call(self, cell_span, made, widths, name, turn), (first, first + width))

    def test_may_meet(self):
        found = {True: 0, False: 0}
        for rng, made in some(72, 60):
            homes = dict(made[5])
            for one, other in itertools.product(homes, repeat=2):
                met = one == other or homes[one] == homes[other] and homes[one][0] == "seat"
                if homes[one][0] == homes[other][0] == "cells" and one != other:
                    met = not leads(made[6], one, other) and not leads(made[6], other, one)
                found[met] += 1
                self.assertIs(call(self, may_meet, made, one, other), met)
        self.assertGreater(min(found.values()), 50)


class OrderTest(unittest.TestCase):

    def test_is_chained(self):
        for rng, made in some(73, 60):
            for one, other in itertools.product("abcdez", repeat=2):
                expected = leads(made[6], one, other) or leads(made[6], other, one)
                self.assertIs(call(self, is_chained, made[6], one, other), expected)
        self.assertIs(call(self, is_chained, (("A", "any string"), ("any string", "b")), "b", "A"), True)
        self.assertIs(is_chained((("a", "b"), ("c", "b")), "a", "c"), False)
        self.assertIs(is_chained((), "", ""), False)
        self.assertIs(is_chained((("a", "b"),), "a", "a"), False)

    def test_is_order(self):
        made = made_with({"a": buffer(1), "b": buffer(2), "c": buffer(1), "d": ("seat", 0)}, (("a", "b"),))
        pairs = list(itertools.product("abc", repeat=2))
        for many in range(4):
            for thing in itertools.combinations(pairs, many):
                ring = any(leads(thing, name, name) for name in "abc")
                self.assertIs(call(self, is_order, made, thing), not ring, thing)
                self.assertIs(is_order(made, list(thing)), False)
                if many > 1:
                    self.assertIs(is_order(made, thing[::-1]), False)
        for thing in [(("a", "d"),), (("d", "a"),), (("a", "z"),), (("a", "b"), ("a", "b")), (("a",),), (("a", "b", "c"),)]:
            self.assertIs(is_order(made, thing), False, thing)
        for thing in thing_variants((("a", "b"), ("b", "c"))):
            right = ["(('b', 'c'),)", "(('a', 'b'),)"]
            self.assertIs(is_order(made, thing), repr(thing) in right, thing)
        check_things(self, is_order, (made,), lambda thing: repr(thing) in ["()", "(('a', 'b'),)"])

    def test_is_widths(self):
        made = made_with({"a": buffer(1), "b": ("seat", 1), "c": buffer(2)}, ())
        for thing in [(("a", 1), ("c", 1)), (("a", 10 ** 40), ("c", 3))]:
            self.assertIs(call(self, is_widths, made, thing), True)
            for other in thing_variants(thing):
                self.assertIs(is_widths(made, other), False, other)
        for thing in [(), (("a", 1),), (("a", 1), ("b", 1), ("c", 1)), (("c", 1), ("a", 1)), (("a", 0), ("c", 1))]:
            self.assertIs(is_widths(made, thing), False, thing)
        check_things(self, is_widths, (made,), lambda thing: False)
        check_things(self, is_widths, (made_with({"b": ("seat", 1)}, ()),), lambda thing: repr(thing) == "()")


class MeetingTest(unittest.TestCase):

    def overlap(self, made, widths, one, turn, other, later):
        cells, width, begins = boxes_of(made), dict(widths), laid(made, widths)
        first, second = [
            (begins[name] + at % cells[name] * width[name], begins[name] + (at % cells[name] + 1) * width[name])
            for name, at in ((one, turn), (other, later))
        ]
        return max(first[0], second[0]) < min(first[1], second[1])

    def test_the_guarantee_over_small_orders(self):
        found = {True: 0, False: 0}
        for rng, made in some(74, 120, 3):
            for one, other in itertools.permutations(boxes_of(made), 2):
                chained = leads(made[6], one, other) or leads(made[6], other, one)
                found[chained] += 1
                for turn, later in itertools.product((0, 1, 2, 10 ** 9 + 2), (0, 1, 5)):
                    widths = meeting_widths(made, one, turn, other, later)
                    self.assertIs(widths is None, chained)
                    self.assertIs(is_meeting_widths(made, one, turn, other, later, widths), not chained)
                    if not chained:
                        self.assertTrue(self.overlap(made, widths, one, turn, other, later))
                    for _ in range(3):
                        widths = random_widths(rng, made)
                        expected = self.overlap(made, widths, one, turn, other, later)
                        self.assertIs(is_meeting_widths(made, one, turn, other, later, widths), expected)
                        self.assertFalse(chained and expected)
                call(self, meeting_widths, made, one, turn, other, later)
                call(self, is_meeting_widths, made, one, turn, other, later, widths)
        self.assertGreater(min(found.values()), 100)

    def test_a_name_and_itself(self):
        for rng, made in some(75, 20):
            for name in boxes_of(made):
                self.assertIsNone(call(self, meeting_widths, made, name, 0, name, 0))
                self.assertIs(is_meeting_widths(made, name, 3, name, 3, random_widths(rng, made)), False)

    def test_great_widths_and_odd_things(self):
        made = made_with({"a": buffer(1), "b": buffer(2)}, ())
        for widths, right in [
            ((("a", 10 ** 40), ("b", 10 ** 39)), True), ((("a", 5), ("b", 5)), False), ((("a", 6), ("b", 5)), True),
            ((("a", 1),), False), ((("b", 5), ("a", 6)), False), ((("a", True), ("b", 1)), False), (None, False),
        ]:
            self.assertIs(is_meeting_widths(made, "a", 0, "b", 1, widths), right, widths)
        for thing in thing_variants((("a", 6), ("b", 5))):
            self.assertIs(is_meeting_widths(made, "a", 0, "b", 1, thing), False, thing)
        check_things(self, is_meeting_widths, (made, "a", 0, "b", 0), lambda thing: False)


class ErrorsTest(unittest.TestCase):

    def test_no_name(self):
        made = made_from("a; b; c | - | a b c | - | a -; b -; c - | a 0; b 1 1 0; c 2 1 1 | b c")
        widths = (("b", 1), ("c", 1))
        for wrong in ("a", "z", "", "B", "any string"):
            raises(self, f"NoName(name={wrong!r})", cell_span, made, widths, wrong, 0)
            for one, other in ((wrong, "b"), ("b", wrong), (wrong, "zz"), (wrong, wrong), (wrong, "a")):
                raises(self, f"NoName(name={wrong!r})", meeting_widths, made, one, 0, other, 0)
                raises(self, f"NoName(name={wrong!r})", is_meeting_widths, made, one, 0, other, 0, widths)
                if wrong != "a":
                    raises(self, f"NoName(name={wrong!r})", may_meet, made, one, other)
        raises(self, "NoName(name='a')", meeting_widths, made, "a", 0, "zz", 0)
        raises(self, "NoName(name='zz')", may_meet, made, "zz", "y")
        self.assertIs(call(self, may_meet, made, "a", "b"), False)
        self.assertIs(call(self, may_meet, made, "a", "a"), True)


class ExamplesTest(unittest.TestCase):

    def test_examples(self):
        check_examples(self, EXAMPLES, names_for("buffers"))


if __name__ == "__main__":
    unittest.main()
