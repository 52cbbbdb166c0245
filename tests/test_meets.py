"""Where PLACES meet, and who wrote what is read [5]."""

import unittest

from builtahead import meets
from builtahead.errors import NotEven
from builtahead.meets import (
    arrays_of, check_even, do_touch, first_touch, is_even, letter_met, never_read, parts_of_array, turns_back,
    uneven_arrays, writers_met,
)
from builtahead.sources import acts, conditions_of, reads_of, roots_of_step, source_from, statement_names
from tests.tools import all_subsets, call, check_examples, dice, outcome, raises, random_place, random_source

EXAMPLES = """
    >>> first_touch(("x", 2, 0), ("x", 3, 1)), do_touch(("x", 2, 0), ("x", 4, 1)), first_touch(("x", 0, 5), ("x", 2, 1)), turns_back(("x", 1, 0), ("x", 1, 2)), turns_back(("x", 2, 0), ("x", 2, 3))
    ((2, 1), False, (0, 2), 2, None)
    >>> near = ((("s", (), ("x", 1, 2), (("x", 1, 0), ("x", 1, 1))), ("t", ("c", True), ("y", 0, 0), (("x", 1, 2), ("y", 0, 0)))), ("t",))
    >>> [writers_met(near, name, number) for name, number in (("s", 0), ("t", 0), ("t", 1))], letter_met(near, "s", 0, (), 1), letter_met(near, "s", 0, (), 5), never_read(near)
    ([(('s', 2),), (('s', 0),), (('t', 1),)], None, ('s', 3), ())
    >>> far = ((("s", (), ("x", 1, 0), (("x", 2, 0),)), ("t", (), ("z", 0, 0), (("w", 1, 0), ("w", 2, 0)))), ("s",))
    >>> uneven_arrays(far), parts_of_array(far, "w")
    (('x',), ((('w', 1, 0),), (('w', 2, 0),)))
    >>> writers_met(far, "s", 0)
    raises NotEven(array='x')
"""

UNEVEN = source_from("s* - x.1.0 x.2.0 y.1.0; t - y.1.3 z.1.0; u +c z.2.0 z.2.3")


def touch_by_search(one, other, turns):
    """The least pair of turns below a bound with the same cell."""
    cells = {}
    for turn in range(turns):
        cells.setdefault((other[0], other[1] * turn + other[2]), turn)
    for turn in range(turns):
        cell = (one[0], one[1] * turn + one[2])
        if cell in cells:
            return turn, cells[cell]
    return None


def parts_by_search(source, array):
    """The parts of an array, put together until nothing changes."""
    targets = {statement[2] for statement in source[0]}
    places = {place for statement in source[0] for place in (statement[2], *statement[3]) if place[0] == array}
    parts = [{place} for place in places]
    while True:
        for one in parts:
            for other in parts:
                if one is not other and any(
                    (p in targets or q in targets) and touch_by_search(p, q, 200) for p in one for q in other
                ):
                    parts = [part for part in parts if part is not one and part is not other] + [one | other]
                    break
            else:
                continue
            break
        else:
            return tuple(sorted(tuple(sorted(part)) for part in parts))


class TouchTest(unittest.TestCase):

    def test_all_small_places(self):
        for a in range(5):
            for c in range(5):
                for b in range(0, 41, 3):
                    for d in range(0, 41, 4):
                        one, other = ("x", a, b), ("x", c, d)
                        expected = touch_by_search(one, other, 100)
                        self.assertEqual(first_touch(one, other), expected, (one, other))
                        self.assertIs(do_touch(one, other), expected is not None)

    def test_random_places(self):
        rng = dice(7)
        for _ in range(300):
            one, other = random_place(rng, "xy", range(12), 40), random_place(rng, "xy", range(12), 40)
            self.assertEqual(call(self, first_touch, one, other), touch_by_search(one, other, 200), (one, other))
            call(self, do_touch, one, other)

    def test_great_numbers(self):
        great = 10 ** 39
        self.assertEqual(first_touch(("x", 1, 0), ("x", 0, great)), (great, 0))
        self.assertEqual(first_touch(("x", 0, great), ("x", 2, 0)), (0, great // 2))
        self.assertEqual(first_touch(("x", great, 0), ("x", great + 1, 0)), (0, 0))
        self.assertEqual(first_touch(("x", great, 1), ("x", great + 1, 0)), (1, 1))
        for one, other in [(("x", great, 1), ("x", great + 1, 0)), (("x", great + 7, 5), ("x", great, 10 ** 45 + 1))]:
            turn, later = first_touch(one, other)
            self.assertEqual(one[1] * turn + one[2], other[1] * later + other[2])
            self.assertTrue(turn >= 0 and later >= 0)
        self.assertIsNone(first_touch(("x", 2 * great, 1), ("x", 4 * great, 2)))

    def test_unlike_arrays(self):
        self.assertIsNone(first_touch(("x", 1, 0), ("y", 1, 0)))
        self.assertIs(do_touch(("x", 0, 0), ("y", 0, 0)), False)
        self.assertEqual(first_touch(("x", 0, 3), ("x", 0, 3)), (0, 0))
        self.assertIsNone(first_touch(("x", 0, 3), ("x", 0, 4)))
        self.assertIsNone(first_touch(("x", 0, 3), ("x", 2, 4)))

    def test_turns_back(self):
        for read, written, expected in [
            (("x", 1, 0), ("x", 1, 2), 2), (("x", 1, 2), ("x", 1, 0), -2), (("x", 2, 0), ("x", 2, 3), None),
            (("x", 2, 1), ("x", 2, 7), 3), (("x", 2, 7), ("x", 2, 1), -3), (("x", 3, 5), ("x", 3, 5), 0),
            (("x", 0, 5), ("x", 0, 5), None), (("x", 1, 0), ("y", 1, 0), None), (("x", 1, 0), ("x", 2, 0), None),
            (("x", 0, 0), ("x", 1, 0), None), (("x", 1, 0), ("x", 0, 0), None), (("x", 4, 40), ("x", 4, 0), -10),
        ]:
            self.assertEqual(call(self, turns_back, read, written), expected)


class ArraysTest(unittest.TestCase):

    def test_beside_a_search(self):
        rng = dice(8)
        for _ in range(150):
            source = random_source(rng, steps=(0, 1, 2, 3), most=6)
            arrays = sorted({place[0] for statement in source[0] for place in (statement[2], *statement[3])})
            self.assertEqual(call(self, arrays_of, source), tuple(arrays))
            uneven = []
            for array in arrays:
                parts = call(self, parts_of_array, source, array)
                self.assertEqual(parts, parts_by_search(source, array))
                if any(len({a for _, a, _ in part}) > 1 for part in parts):
                    uneven.append(array)
            self.assertEqual(call(self, uneven_arrays, source), tuple(uneven))
            self.assertIs(call(self, is_even, source), uneven == [])
            if uneven:
                raises(self, f"NotEven(array={uneven[0]!r})", check_even, source)
                raises(self, f"NotEven(array={uneven[0]!r})", never_read, source)
            else:
                self.assertIsNone(call(self, check_even, source))

    def test_edges(self):
        self.assertEqual(uneven_arrays(UNEVEN), ("x", "z"))
        self.assertEqual(parts_of_array(UNEVEN, "x"), ((("x", 1, 0), ("x", 2, 0)),))
        self.assertEqual(parts_of_array(UNEVEN, "z"), ((("z", 1, 0), ("z", 2, 0)), (("z", 2, 3),)))
        only_read = source_from("a - x.1.0 w.1.0 w.2.0 w.0.0")
        self.assertEqual(parts_of_array(only_read, "w"), ((("w", 0, 0),), (("w", 1, 0),), (("w", 2, 0),)))
        self.assertIs(is_even(only_read), True)
        third = source_from("a - x.2.0 x.1.5; b - y.0.0 x.4.2")
        self.assertEqual(parts_of_array(third, "x"), ((("x", 1, 5), ("x", 2, 0), ("x", 4, 2)),))
        apart = source_from("a - x.2.0 x.4.1; b - y.0.0")
        self.assertEqual(parts_of_array(apart, "x"), ((("x", 2, 0),), (("x", 4, 1),)))
        self.assertIs(is_even(apart), True)
        raises(self, "NoName(name='w')", parts_of_array, apart, "w")
        raises(self, "NoName(name='a')", parts_of_array, apart, "a")


class WritersTest(unittest.TestCase):

    def test_order(self):
        source = source_from("a - x.1.2; b +c x.1.2; d - y.1.0 x.1.2 x.1.0 x.1.3; e - x.1.2; f - x.1.3; g - x.1.1")
        self.assertEqual(call(self, writers_met, source, "d", 0), (("b", 0), ("a", 0), ("f", 1)))
        self.assertEqual(call(self, writers_met, source, "d", 1), (("g", 1), ("e", 2), ("b", 2), ("a", 2), ("f", 3)))
        self.assertEqual(call(self, writers_met, source, "d", 2), ())
        still = source_from("a - s.0.0; b -c s.0.0 s.0.0; d - s.0.0 s.0.0 s.0.1")
        self.assertEqual(call(self, writers_met, still, "b", 0), (("a", 0), ("d", 1), ("b", 1)))
        self.assertEqual(call(self, writers_met, still, "d", 0), (("b", 0), ("a", 0), ("d", 1)))
        self.assertEqual(call(self, writers_met, still, "d", 1), ())
        self.assertEqual(call(self, letter_met, still, "b", 0, ("c",), 0), ("a", 0))
        self.assertEqual(call(self, letter_met, still, "d", 0, (), 7), ("b", 7))
        self.assertEqual(call(self, letter_met, still, "d", 0, ("c",), 7), ("a", 7))

    def test_a_first_letter_below_the_distance(self):
        source = source_from("a - x.1.3 x.1.0; b +c x.1.1 z.0.9")
        self.assertEqual(letter_met(source, "a", 0, ("c",), 0), None)
        self.assertEqual(letter_met(source, "a", 0, ("c",), 1), ("b", 0))
        self.assertEqual([letter_met(source, "a", 0, (), turn) for turn in (2, 3, 10 ** 20)], [None, ("a", 0), ("a", 10 ** 20 - 3)])

    def test_errors_in_their_order(self):
        for function, more in ((writers_met, ()), (letter_met, ((), 0))):
            raises(self, "NoName(name='v')", function, UNEVEN, "v", 9, *more)
            raises(self, "NoNumber(number=9)", function, UNEVEN, "s", 9, *more)
            raises(self, "NoNumber(number=2)", function, UNEVEN, "s", 2, *more)
            raises(self, "NoNumber(number=-1)", function, UNEVEN, "s", -1, *more)
            raises(self, "NotEven(array='x')", function, UNEVEN, "s", 0, *more)
        self.assertEqual(writers_met(UNEVEN, "s", 1), (("t", 3),))
        two = source_from("a - x.1.0 x.2.0; b - w.1.0 w.2.0; c - y.0.0 x.1.0 w.1.0 y.0.0")
        raises(self, "NotEven(array='x')", writers_met, two, "c", 0)
        raises(self, "NotEven(array='w')", writers_met, two, "c", 1)
        self.assertEqual(call(self, writers_met, two, "c", 2), (("c", 1),))
        raises(self, "NotEven(array='w')", check_even, two)
        raises(self, "NotEven(array='w')", never_read, two)

    def test_beside_going_through(self):
        rng = dice(9)
        seen = 0
        for _ in range(250):
            source = random_source(rng)
            for name in statement_names(source):
                for number in range(len(reads_of(source, name))):
                    if outcome(writers_met, source, name, number).startswith("raises NotEven"):
                        continue
                    seen += 1
                    for conditions in all_subsets(conditions_of(source)):
                        if not acts(source, name, conditions):
                            continue
                        for turn in range(7):
                            root = roots_of_step(source, conditions, name, turn)[number]
                            expected = root[1:] if root[0] == "step" else None
                            self.assertEqual(letter_met(source, name, number, conditions, turn), expected)
            if reads_of(source, name) and is_even(source):
                call(self, letter_met, source, name, 0, (), 3)
                call(self, writers_met, source, name, 0)
        self.assertGreater(seen, 300)

    def test_whether_it_acts_or_not(self):
        source = source_from("a +c x.1.1 x.1.0; b +c y.0.0 x.1.1; d -c y.0.0 x.1.1")
        self.assertEqual(letter_met(source, "a", 0, (), 4), None)
        self.assertEqual(letter_met(source, "b", 0, (), 4), None)
        self.assertEqual(letter_met(source, "d", 0, ("c",), 4), ("a", 4))


class NeverReadTest(unittest.TestCase):

    def test_beside_going_through(self):
        rng = dice(10)
        for _ in range(250):
            source = random_source(rng)
            if not is_even(source):
                continue
            read = set()
            for conditions in all_subsets(conditions_of(source)):
                for name in statement_names(source):
                    for turn in range(7):
                        roots = roots_of_step(source, conditions, name, turn) or ()
                        read |= {root[1] for root in roots if root[0] == "step"}
            expected = {name for name in statement_names(source) if name not in read and name not in source[1]}
            self.assertEqual(call(self, never_read, source), tuple(sorted(expected)))

    def test_edges(self):
        self.assertEqual(never_read(source_from("b - x.0.0; a* - x.0.0")), ("b",))
        self.assertEqual(never_read(source_from("b +c x.0.0; a -c y.0.0 x.0.0")), ("a", "b"))
        self.assertEqual(never_read(source_from("b +c x.0.0; a +c y.0.0 x.0.0")), ("a",))
        self.assertEqual(never_read(source_from("b - x.0.0 x.0.0")), ())
        self.assertEqual(never_read(source_from("b - x.1.0; a - x.1.0; d* - y.0.0 x.1.0")), ("b",))
        self.assertEqual(never_read(source_from("b - x.1.0; a +c x.1.0; d* - y.0.0 x.1.0")), ())


class ExamplesTest(unittest.TestCase):

    def test_examples(self):
        check_examples(self, EXAMPLES, vars(meets))

    def test_the_error_keeps_its_array(self):
        with self.assertRaises(NotEven) as caught:
            check_even(UNEVEN)
        self.assertEqual(caught.exception.array, "x")


if __name__ == "__main__":
    unittest.main()
