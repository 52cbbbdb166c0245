"""Numbers [11], beside going turn by turn and multiplier by multiplier."""

import unittest

from builtahead.numbers import corners, first_inexact, is_exact, least_numbers, multipliers, worked_out
from tests.tools import call, check_examples, dice, names_for

EXAMPLES = """
    >>> least_numbers(3, 10), least_numbers(3, 10 ** 6), least_numbers(8, 10 ** 6), [worked_out(turn, 3, 11, 5) for turn in range(7)], first_inexact(3, 11, 5), worked_out(32, 3, 11, 5)
    ((11, 5), (699051, 21), (1, 3), [0, 1, 2, 0, 1, 2, 0], 32, -1)
    >>> first_inexact(3, 10, 5), first_inexact(3, 23, 6), first_inexact(8, 1, 3), is_exact(3, 23, 6, 14), is_exact(3, 23, 6, 15), is_exact(5, 0, 0, 5)
    (3, 14, None, True, False, True)
    >>> corners(3, 10), corners(5, 3), corners(4, 1), multipliers(3, 5, 10), multipliers(3, 6, 10), multipliers(3, 4, 10)
    ((3, 8), (2,), (), (11, 11), (22, 23), None)
"""

FAR = 400


def is_right_turn(turn, cells, multiplier, shift):
    """Whether the number is exact for this turn, as [11] says it."""
    return turn - cells * (turn * multiplier // 2 ** shift) == turn % cells


def first_by_hand(cells, multiplier, shift, far=FAR):
    """The least turn below this one for which it is not exact."""
    return next((turn for turn in range(far) if not is_right_turn(turn, cells, multiplier, shift)), None)


def corners_by_hand(cells, bound):
    """The corners, as [11] says them."""
    if bound < 2:
        return ()
    if cells < bound:
        return tuple(sorted({cells, max(turn for turn in range(bound) if turn % cells == cells - 1)}))
    return (bound - 1,)


class ExactTest(unittest.TestCase):

    def test_turn_by_turn(self):
        found = {True: 0, False: 0}
        for cells in range(1, 8):
            for shift in range(7):
                for multiplier in [*range(14), 31, 32, 64]:
                    numbers = (cells, multiplier, shift)
                    first = first_by_hand(*numbers)
                    found[first is None] += 1
                    self.assertEqual(first_inexact(*numbers), first, numbers)
                    for bound in (-3, 0, 1, 2, cells, cells + 1, 2 * cells, 17, 300):
                        self.assertIs(is_exact(*numbers, bound), first is None or first >= bound, (numbers, bound))
                        by_corners = all(is_right_turn(turn, *numbers) for turn in corners(cells, bound))
                        self.assertIs(is_exact(*numbers, bound), by_corners, (numbers, bound))
        self.assertGreater(min(found.values()), 10)

    def test_ways_of_calling(self):
        for numbers in [(1, 0, 0), (3, 11, 5), (3, 10, 5), (8, 1, 3), (5, 0, 0), (10 ** 6, 10 ** 24, 100)]:
            call(self, first_inexact, *numbers)
            call(self, is_exact, *numbers, 10 ** 6)
            for turn in (0, 1, 7, 10 ** 30):
                expected = turn - numbers[0] * (turn * numbers[1] // 2 ** numbers[2])
                self.assertEqual(call(self, worked_out, turn, *numbers), expected)

    def test_edges(self):
        self.assertEqual([first_inexact(1, multiplier, 0) for multiplier in (0, 1, 2)], [1, None, 1])
        self.assertEqual([first_inexact(1, multiplier, 1) for multiplier in (1, 2, 3)], [1, None, 2])
        self.assertEqual([first_inexact(7, 0, shift) for shift in (0, 1, 100)], [7, 7, 7])
        self.assertIsNone(first_inexact(2 ** 19, 2 ** 81, 100))
        self.assertIsNone(first_inexact(1, 2 ** 100, 100))
        self.assertEqual(first_inexact(10 ** 6, 2 ** 100 // 10 ** 6, 100), 10 ** 6)
        self.assertIs(is_exact(5, 7, 3, 0), True)
        self.assertIs(is_exact(5, 7, 3, -10 ** 30), True)
        self.assertIs(is_exact(4, 1, 2, 10 ** 40), True)

    def test_great_numbers(self):
        rng = dice(70)
        for _ in range(300):
            cells, shift = rng.choice([1, 2, 3, 10 ** 6, rng.randint(1, 10 ** 6)]), rng.randint(0, 100)
            multiplier = max(0, 2 ** shift // cells + rng.randint(-1, 2))
            first = first_inexact(cells, multiplier, shift)
            # Each turn ahead of the first one may be asked; the corners below it tell for all.
            if first is None:
                self.assertEqual(cells * multiplier, 2 ** shift)
                first = 10 ** 40
            else:
                self.assertFalse(is_right_turn(first, cells, multiplier, shift))
            turns = [turn for turn in [first - 1, first // 2, first // cells * cells - 1, rng.randrange(first)] if turn >= 0]
            for turn in turns:
                self.assertTrue(is_right_turn(turn, cells, multiplier, shift), (cells, multiplier, shift, turn))

    def test_a_shift_however_great(self):
        self.assertEqual(first_inexact(3, 10 ** 40, 10 ** 30), 3)
        self.assertIs(is_exact(3, 10 ** 40, 10 ** 40, 4), False)
        self.assertIs(is_exact(10 ** 40, 10 ** 40, 10 ** 40, 10 ** 6), True)


class CornersTest(unittest.TestCase):

    def test_turn_by_turn(self):
        for cells in range(1, 9):
            for bound in range(-2, 30):
                self.assertEqual(call(self, corners, cells, bound), corners_by_hand(cells, bound))
        self.assertEqual(corners(10 ** 6, 10 ** 30), (10 ** 6, 10 ** 30 - 1))
        self.assertEqual(corners(10 ** 30, 10 ** 30), (10 ** 30 - 1,))


class MultipliersTest(unittest.TestCase):

    def test_multiplier_by_multiplier(self):
        found = {True: 0, False: 0}
        for cells in range(1, 8):
            for shift in range(7):
                for bound in (2, 3, 5, 8, 13):
                    right = [
                        multiplier for multiplier in range(2 ** (shift + 1) + 1)
                        if all(is_right_turn(turn, cells, multiplier, shift) for turn in range(bound))
                    ]
                    found[right == []] += 1
                    expected = (right[0], right[-1]) if right else None
                    self.assertEqual(call(self, multipliers, cells, shift, bound), expected, (cells, shift, bound))
                    if right:
                        self.assertEqual(right, list(range(right[0], right[-1] + 1)))
        self.assertGreater(min(found.values()), 10)

    def test_least_numbers(self):
        for cells in range(1, 9):
            for bound in range(2, 24):
                shift = 0
                while multipliers(cells, shift, bound) is None:
                    shift += 1
                self.assertEqual(call(self, least_numbers, cells, bound), (multipliers(cells, shift, bound)[0], shift))
        for cells, bound in [(1, 10 ** 6), (2, 10 ** 6), (7, 10 ** 6), (10 ** 6, 10 ** 6), (999999, 10 ** 30), (3, 10 ** 60)]:
            multiplier, shift = least_numbers(cells, bound)
            self.assertIs(is_exact(cells, multiplier, shift, bound), True)
            self.assertEqual(multipliers(cells, shift, bound)[0], multiplier)
            self.assertIs(multiplier == 0 or not is_exact(cells, multiplier - 1, shift, bound), True)
            if shift:
                self.assertIsNone(multipliers(cells, shift - 1, bound))

    def test_edges(self):
        self.assertEqual((least_numbers(1, 2), least_numbers(5, 5), least_numbers(2, 3)), ((1, 0), (0, 0), (1, 1)))
        self.assertEqual(multipliers(10 ** 6, 0, 10 ** 6), (0, 0))
        self.assertIsNone(multipliers(10 ** 6, 0, 10 ** 6 + 1))


class ExamplesTest(unittest.TestCase):

    def test_examples(self):
        check_examples(self, EXAMPLES, names_for("numbers"))


if __name__ == "__main__":
    unittest.main()
