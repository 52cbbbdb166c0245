"""What is free [22], beside each change made by hand."""

import itertools
import unittest

from builtahead.free import (
    can_go, cells_for, fewest_waits, free_order, free_waits, healing_wait, seats_for, spots_for, swaps, turnable,
)
from builtahead.hands import is_stuck
from builtahead.lastword import is_right
from builtahead.mades import (
    home_of, is_made, made_from, names_in, plain_made, row_of, with_home, with_rows, with_wait, with_waits,
)
from builtahead.sources import source_from
from tests.tools import all_subsets, call, check_examples, dice, names_for, raises, random_waits
from tests.worlds import buffer, even_source, near_made, random_made, safe_made

EXAMPLES = """
    >>> source = source_from("load - x.1.0 p.1.0; mul - y.1.0 x.1.0; add* - s.0.0 s.0.0 y.1.0")
    >>> made = made_from("add add.1, mul.0; load -; mul load.0 | - | load; mul add | load add 0; load mul 0; mul load 1 | add -; load -; mul - | add 0; load 1 1 0; mul 1 1 0 | load mul")
    >>> free_waits(source, made), can_go(source, made, (("load", "mul", 0),)), fewest_waits(source, made), free_order(source, made), turnable(source, made)
    ((('load', 'add', 0),), False, (('load', 'mul', 0), ('mul', 'load', 1)), (), (('load', 'mul'),))
    >>> seats_for(source, made, "load"), cells_for(source, made, "load"), spots_for(source, made, "add"), swaps(source, made), healing_wait(source, made, 1, 0)
    ((1, 2, 3, 4, 5, 6, 7), 1, ((1, 1),), (), None)
    >>> healing_wait(source, made, 1, 1)
    raises NoNumber(number=1)
"""

SOURCE = source_from("load - x.1.0 p.1.0; mul - y.1.0 x.1.0; add* - s.0.0 s.0.0 y.1.0")
MADE = made_from("add add.1, mul.0; load -; mul load.0 | - | load; mul add | load add 0; load mul 0; mul load 1 | add -; load -; mul - | add 0; load 1 1 0; mul 1 1 0 | load mul")
STUCK = with_wait(MADE, "mul", "load", 0)


def does(source, made):
    return is_made(source, made) and is_right(source, made)


def some(seed, count, most=3):
    """MADES of all kinds, right or not, stuck or not, with at most six waits."""
    rng = dice(seed)
    for _ in range(count):
        source = even_source(rng, most, rng.choice(["xyz", "xy"]), (0, 1, 1), 3)
        made = rng.choice([random_made, safe_made, safe_made, near_made])(rng, source)
        if rng.random() < 0.4:
            made = with_waits(made, (made[3] + random_waits(rng, names_in(made), 4, 2))[:6])
        yield rng, source, made


def fewer(source, made, waits):
    return with_waits(made, tuple(wait for wait in made[3] if wait not in waits))


class WaitsTest(unittest.TestCase):

    def test_beside_taking_them_away(self):
        counts = {"go": 0, "stay": 0, "none": 0, "less": 0, "all": 0, "stuck": 0}
        for rng, source, made in some(170, 140):
            free = tuple(wait for wait in made[3] if does(source, fewer(source, made, [wait])))
            self.assertEqual(call(self, free_waits, source, made), free)
            for waits in rng.sample(all_subsets(made[3]), min(6, 2 ** len(made[3]))):
                found = does(source, fewer(source, made, waits))
                counts["go" if found else "stay"] += waits != ()
                self.assertIs(call(self, can_go, source, made, waits), found)
            right = [waits for waits in all_subsets(made[3]) if does(source, with_waits(made, waits))]
            expected = min(right, key=lambda waits: (len(waits), waits), default=None)
            self.assertEqual(call(self, fewest_waits, source, made), expected)
            counts["none" if expected is None else "all" if expected == made[3] else "less"] += 1
            counts["stuck"] += is_stuck(made[2], made[3]) and expected is not None
        self.assertGreater(min(counts.values()), 5, counts)

    def test_others_count_for_nothing(self):
        for waits, expected in [
            ((), True), ((("load", "add", 0),), True), ((("load", "add", 1),), True), ((("zz", "add", 0),), True),
            ((("load", "add", 0), ("load", "mul", 1)), True), ((("load", "add", 0), ("load", "mul", 0)), False), (MADE[3], False),
        ]:
            self.assertIs(call(self, can_go, SOURCE, MADE, waits), expected)
        self.assertIs(can_go(SOURCE, STUCK, ()), False)
        self.assertIs(can_go(SOURCE, STUCK, (("mul", "load", 0),)), True)
        self.assertEqual((free_waits(SOURCE, STUCK), fewest_waits(SOURCE, STUCK)), ((("mul", "load", 0),), (("load", "mul", 0), ("mul", "load", 1))))

    def test_guarantee_more_waits(self):
        kept = stuck = together = 0
        for rng, source, made in some(171, 400, 4):
            if not is_right(source, made):
                continue
            more = with_waits(made, made[3] + random_waits(rng, names_in(made), 5, 2))
            self.assertIs(is_right(source, more), not is_stuck(more[2], more[3]))
            kept, stuck = kept + is_right(source, more), stuck + is_stuck(more[2], more[3])
            for waits in all_subsets(made[3]):
                if can_go(source, made, waits):
                    together += len(waits) > 1
                    for wait in waits:
                        self.assertIs(can_go(source, made, tuple(other for other in waits if other != wait)), True)
        self.assertGreater(min(kept, stuck, together), 15, (kept, stuck, together))


class OrderTest(unittest.TestCase):

    def test_beside_each_change(self):
        counts = {"free": 0, "bound": 0, "turned": 0, "ring": 0, "wrong": 0}
        for rng, source, made in some(172, 450):
            free, turned = [], []
            for low, high in made[6]:
                others = [pair for pair in made[6] if pair != (low, high)]
                if does(source, (*made[:6], tuple(others))):
                    free.append((low, high))
                other = (*made[:6], tuple(sorted({*others, (high, low)})))
                counts["ring"] += not is_made(source, other)
                if does(source, other):
                    turned.append((low, high))
            self.assertEqual(call(self, free_order, source, made), tuple(free))
            self.assertEqual(call(self, turnable, source, made), tuple(turned))
            counts["free"] += len(free)
            counts["bound"] += is_right(source, made) * (len(made[6]) - len(free))
            counts["turned"] += len(turned)
            counts["wrong"] += made[6] != () and free == []
        self.assertGreater(min(counts.values()), 20, counts)

    def test_a_ring_that_turning_makes(self):
        source = source_from("a* - x.1.2 x.1.0; b* - y.1.2 y.1.0; d* - z.1.2 z.1.0")
        made = plain_made(source)
        made = (*made[:6], (("a", "b"), ("a", "d"), ("b", "d")))
        self.assertEqual((is_right(source, made), call(self, free_order, source, made)), (True, (("a", "d"),)))
        self.assertEqual(call(self, turnable, source, made), (("a", "b"), ("b", "d")))


def with_seat(made, name, number):
    """The MADE with this seat, its pairs put together around the name."""
    below = [low for low, high in made[6] if high == name]
    above = [high for low, high in made[6] if low == name]
    order = {pair for pair in made[6] if name not in pair} | set(itertools.product(below, above))
    return (*with_home(made, name, ("seat", number))[:6], tuple(sorted(order)))


class HomesTest(unittest.TestCase):

    def test_seats_beside_each_change(self):
        counts = {"buffer": 0, "seat": 0, "taken": 0, "none": 0, "move": 0}
        for rng, source, made in some(173, 130):
            if rng.random() < 0.5:
                made = plain_made(source)
                made = (*made[:5], tuple((name, ("seat", number)) for number, name in enumerate(names_in(made))), ())
            for name in names_in(made):
                seats = tuple(number for number in range(8) if does(source, with_seat(made, name, number)))
                self.assertEqual(seats_for(source, made, name), seats)
                counts["move"] += name in [move[0] for move in made[1]]
                counts["none" if not seats else "taken" if len(seats) < 8 else home_of(made, name)[0].replace("cells", "buffer")] += 1
            call(self, seats_for, source, made, names_in(made)[0])
        self.assertGreater(min(counts.values()), 5, counts)

    def test_pairs_are_put_together(self):
        source = source_from("a* - x.1.2 x.1.0; b - y.1.0 x.1.0; d* - z.1.2 z.1.0")
        made = made_from("a a.2; b a.2; d d.2 | - | a b d | - | a -; b -; d - | a 3 699051 21; b 1 1 0; d 2 1 1 | a b; b d")
        self.assertEqual((is_right(source, made), call(self, seats_for, source, made, "b")), (True, tuple(range(8))))
        # Just taken away, b would leave a and d apart from nothing.
        bare = (*with_home(made, "b", ("seat", 0))[:6], ())
        self.assertIs(is_right(source, bare), False)

    def test_cells_beside_each_number(self):
        found = {}
        for rng, source, made in some(174, 120, 4):
            if rng.random() < 0.6:
                source = even_source(rng, 4, "xy", (1, 1), 3)
                made = plain_made(source) if rng.random() < 0.5 else near_made(rng, source)
            for name in names_in(made):
                if home_of(made, name)[0] == "seat":
                    raises(self, f"NoName(name={name!r})", cells_for, source, made, name)
                    continue
                right = [many for many in range(1, 17) if does(source, with_home(made, name, buffer(many)))]
                expected = right[0] if right else None
                self.assertEqual(cells_for(source, made, name), expected)
                found[expected] = found.get(expected, 0) + 1
        self.assertGreater(min(found[many] for many in (None, 1, 2)), 10, found)

    def test_sixteen_cells_and_more(self):
        for back, expected in ((15, 15), (16, 16), (17, None)):
            source = source_from(f"a - x.1.{back} x.0.0; b* - y.1.0 x.1.0")
            made = plain_made(source)
            made = (*made[:2], (("b", "a"),), *made[3:])
            self.assertEqual(call(self, cells_for, source, made, "a"), expected)


class RowsTest(unittest.TestCase):

    def moved(self, made, name, hand, place):
        rows = [[other for other in row if other != name] for row in made[2]]
        rows[hand].insert(place, name)
        return with_rows(made, rows)

    def exchanged(self, made, hand, place):
        rows = [list(row) for row in made[2]]
        rows[hand][place:place + 2] = rows[hand][place:place + 2][::-1]
        return with_rows(made, rows)

    def test_spots_and_swaps_beside_each_change(self):
        counts = {"spots": 0, "fixed": 0, "none": 0, "swaps": 0, "no swaps": 0, "healed": 0}
        for rng, source, made in some(175, 200):
            for name in names_in(made):
                lengths = [len([other for other in row if other != name]) for row in made[2]]
                able = [(hand, place) for hand, many in enumerate(lengths) for place in range(many + 1)]
                right = tuple(spot for spot in able if does(source, self.moved(made, name, *spot)))
                self.assertEqual(call(self, spots_for, source, made, name), right)
                own = (row_of(made, name), made[2][row_of(made, name)].index(name))
                self.assertIs(own in right, is_right(source, made))
                counts["none" if not right else "fixed" if len(right) == 1 else "spots"] += 1
            pairs = [(hand, place) for hand, row in enumerate(made[2]) for place in range(len(row) - 1)]
            right = tuple(pair for pair in pairs if does(source, self.exchanged(made, *pair)))
            self.assertEqual(call(self, swaps, source, made), right)
            counts["swaps" if right else "no swaps"] += 1
            counts["healed"] += right != () and not is_right(source, made)
        self.assertGreater(min(counts.values()), 4, counts)

    def test_healing_wait_beside_trying_all(self):
        counts = {"none": 0, "nothing": 0, "wait": 0}
        for rng, source, made in some(176, 350, 4):
            pairs = [(hand, place) for hand, row in enumerate(made[2]) for place in range(len(row) - 1)]
            if is_right(source, made) and made[3] and pairs:
                # What was right lacks a wait, and was exchanged ahead.
                gone = rng.choice(made[3])
                made = self.exchanged(with_waits(made, [wait for wait in made[3] if wait != gone]), *rng.choice(pairs))
            elif rng.random() < 0.95:
                continue
            for hand, row in enumerate(made[2]):
                for place in range(len(row) - 1):
                    other = self.exchanged(made, hand, place)
                    waits = sorted(itertools.product(names_in(made), names_in(made), range(3)))
                    right = [wait for wait in waits if does(source, with_wait(other, *wait))]
                    expected = () if does(source, other) else right[0] if right else None
                    self.assertEqual(healing_wait(source, made, hand, place), expected)
                    counts["none" if expected is None else "wait" if expected else "nothing"] += 1
        self.assertGreater(min(counts.values()), 3, counts)

    def test_a_wait_that_heals(self):
        # Exchanged, mul comes ahead of load in the row; no wait of 0 can turn that about, but load can go on by itself.
        made = made_from("add add.1, mul.0; load -; mul load.0 | - | load; mul add | load mul 0; mul load 1 | add -; load -; mul - | add 0; load 1 1 0; mul 2 1 1 | load mul")
        self.assertEqual((is_right(SOURCE, made), healing_wait(SOURCE, made, 1, 0)), (True, None))
        source = source_from("a - x.1.0 p.1.0; b* - y.1.0 q.1.0; d* - z.1.0 x.1.0")
        loose = made_from("a -; b -; d a.0 | - | a b; d | b d 0; d a 1 | a -; b -; d - | a 0; b 1; d 2 | -")
        self.assertEqual((is_right(source, loose), swaps(source, loose)), (True, ()))
        self.assertEqual(call(self, healing_wait, source, loose, 0, 0), ("a", "d", 0))


class ErrorsTest(unittest.TestCase):

    def test_no_name(self):
        for made in (MADE, STUCK):
            for name in ("z", "", "A", "loads"):
                for function in (seats_for, cells_for, spots_for):
                    raises(self, f"NoName(name={name!r})", function, SOURCE, made, name)
            raises(self, "NoName(name='add')", cells_for, SOURCE, made, "add")

    def test_no_number_for_hand_then_for_place(self):
        for made in (MADE, STUCK, with_rows(MADE, ((), ("load", "mul", "add")))):
            for hand in (-1, 2, 10 ** 30):
                raises(self, f"NoNumber(number={hand})", healing_wait, SOURCE, made, hand, 7)
            last = len(made[2][1]) - 1
            for place in (-1, last, last + 1, 10 ** 30):
                raises(self, f"NoNumber(number={place})", healing_wait, SOURCE, made, 1, place)
            raises(self, "NoNumber(number=0)", healing_wait, SOURCE, made, 0, 0)
        self.assertEqual(swaps(SOURCE, with_rows(MADE, ((), ("load", "mul", "add")))), ())

    def test_a_stuck_made(self):
        self.assertEqual([function(SOURCE, STUCK) for function in (free_order, turnable, swaps)], [(), (), ()])
        self.assertEqual([seats_for(SOURCE, STUCK, "mul"), cells_for(SOURCE, STUCK, "mul"), spots_for(SOURCE, STUCK, "mul")], [(), None, ()])
        self.assertIsNone(healing_wait(SOURCE, STUCK, 1, 0))


class ExamplesTest(unittest.TestCase):

    def test_examples(self):
        check_examples(self, EXAMPLES, names_for("free"))


if __name__ == "__main__":
    unittest.main()
