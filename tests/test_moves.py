"""Moves [21], in their own words, beside passing each and each set, and beside the distances of all others."""

import itertools
import unittest

from builtahead.flows import all_conditions
from builtahead.folds import too_few, with_least_cells
from builtahead.hands import arrows, gaps, is_stuck, least_gap, needed_waits
from builtahead.lastword import is_right
from builtahead.mades import (
    is_made, made_from, mask_of, names_in, plain_made, trees_of, with_home, with_rows, with_waits,
)
from builtahead.moves import chain, fewest_moves, leads_to, needless_moves, passed, places_for, put_in
from builtahead.sources import source_from
from tests.tools import all_subsets, call, check_examples, dice, names_for, raises, random_waits
from tests.worlds import buffer, even_source, led_by, near_made, random_made, safe_made

EXAMPLES = """
    >>> source = ((("a", (), ("p", 0, 0), (("in", 1, 0),)), ("b", (), ("out", 1, 0), (("p", 0, 0),))), ("b",))
    >>> made = ((("a", ((),)), ("b", (("m", 0),))), (("m", ("p", 0, 0), ("a", 0)),), (("a", "m", "b"),), (), (("a", ((),)), ("b", ((),)), ("m", ((),))), (("a", ("seat", 0)), ("b", ("seat", 1)), ("m", ("cells", 1, 1, 0))), ())
    >>> chain(made, "b", 0, ()), chain(made, "a", 0, ()), leads_to(made, "b", 0, ()), needless_moves(source, made), fewest_moves(source, made)
    ((('m', 0), ('a', 0)), (), ('a', 0), ('m',), ())
    >>> plain = passed(made, "m")
    >>> more = put_in(source, plain, "b", 0, "m", 0, 1, ("cells", 1, 1, 0))
    >>> plain[:4], more[:3] == made[:3], more[3], places_for(source, plain, "b", 0)
    (((('a', ((),)), ('b', (('a', 0),))), (), (('a', 'b'),), ()), True, (('a', 'm', 0), ('m', 'b', 0)), ((0, 1),))
    >>> passed(made, "a")
    raises NoName(name='a')
"""

SOURCE = source_from("a - x.1.2; b* - y.1.0 x.1.0")
MADE = made_from("a; b m.1 | m x.1.1 a.1 | a m b | - | a -; b -; m - | a 2 1 1; b 0; m 2 1 1 | a m")
HOME = ("cells", 2, 1, 1)


def some(seed, count, most=3):
    """MADES, many of them with MOVES, stuck or not."""
    rng = dice(seed)
    while count:
        source = even_source(rng, most)
        made = random_made(rng, source)
        if made[1] or rng.random() < 0.1:
            count -= 1
            yield rng, source, made


def moves_of(made):
    return [name for name, _, _ in made[1]]


def trees_by_name(made):
    return {**dict(made[0]), **{name: (tree,) for name, _, tree in made[1]}}


def chain_by_hand(made, name, read, conditions, ahead=0):
    found = led_by(trees_by_name(made)[name][read], conditions)
    if not found:
        return ()
    pair = (found[0], ahead + found[1])
    return (pair,) + (chain_by_hand(made, found[0], 0, conditions, pair[1]) if found[0] in moves_of(made) else ())


def least_of_two(waits):
    """Of waits between the same two the least alone."""
    return tuple(sorted(wait for wait in set(waits) if not any(wait[:2] == other[:2] and other[2] < wait[2] for other in waits)))


def replaced(tree, name, other):
    """The TREE with the other one in the place of each leaf of the name."""
    if len(tree) == 2 and tree[0] == name:
        def later(part):
            return part and ((part[0], part[1] + tree[1]) if len(part) == 2 else (part[0], later(part[1]), later(part[2])))
        return later(other)
    return (tree[0], replaced(tree[1], name, other), replaced(tree[2], name, other)) if len(tree) == 3 else tree


def passed_by_hand(made, name):
    """The MADE without this MOVE, as [21] says it."""
    steps, moves, rows, waits, masks, homes, order = made
    own = trees_by_name(made)[name][0]
    near = []
    for row in rows:
        if name in row and len(row) > 1:
            at = row.index(name)
            near += [(row[at - 1], name, 0 if at else 1), (name, row[(at + 1) % len(row)], 0 if at + 1 < len(row) else 1)]
    found = [wait for wait in waits if name not in wait[:2]]
    both = [(wait, "wait") for wait in waits] + [(arrow, "row") for arrow in near]
    for (into, kind), (onward, other) in itertools.product(both, both):
        if into[1] == onward[0] == name and name not in (into[0], onward[1]) and (kind, other) != ("row", "row"):
            wait = (into[0], onward[1], into[2] + onward[2])
            found += [wait] if wait[0] != wait[1] or wait[2] == 0 else []
    left = [tuple(part for part in row if part != name) for row in rows]
    below = [low for low, high in order if high == name]
    above = [high for low, high in order if low == name]
    pairs = {pair for pair in order if name not in pair} | set(itertools.product(below, above))
    return (
        tuple((step, tuple(replaced(tree, name, own) for tree in trees)) for step, trees in steps),
        tuple((move, place, replaced(tree, name, own)) for move, place, tree in moves if move != name),
        tuple(row for row in left if row) or ((),), least_of_two(found),
        tuple(pair for pair in masks if pair[0] != name), tuple(pair for pair in homes if pair[0] != name),
        tuple(sorted(pairs)),
    )


class ChainTest(unittest.TestCase):

    def test_in_the_words(self):
        lengths, ends = {}, {"step": 0, "letter": 0}
        for rng, source, made in some(160, 200):
            for name, trees in trees_by_name(made).items():
                for read in range(len(trees)):
                    for conditions in [*all_conditions(source), ("c", "zz")]:
                        pairs = call(self, chain, made, name, read, conditions)
                        self.assertEqual(pairs, chain_by_hand(made, name, read, conditions))
                        lengths[len(pairs)] = lengths.get(len(pairs), 0) + 1
                        end = call(self, leads_to, made, name, read, conditions)
                        is_step = bool(pairs) and pairs[-1][0] in dict(made[0])
                        ends["step" if is_step else "letter"] += 1
                        self.assertEqual(end, pairs[-1] if is_step else ())
        self.assertGreater(min(lengths[many] for many in (0, 1, 2, 3)), 10, lengths)
        self.assertGreater(min(ends.values()), 100)

    def test_several_moves_by_conditions(self):
        made = made_from("a; b m.1 | m x.1.1 c? n.2 a.1; n x.1.3 e? - a.3 | a n m b | - | a -; b -; m -; n - | a 8 1 3; b 0; m 2 1 1; n 4 1 2 | a m; a n")
        for conditions, pairs in [
            ((), (("m", 1), ("n", 3))), (("c",), (("m", 1), ("a", 2))), (("e",), (("m", 1), ("n", 3), ("a", 6))),
            (("c", "e"), (("m", 1), ("a", 2))),
        ]:
            self.assertEqual(call(self, chain, made, "b", 0, conditions), pairs)
            self.assertEqual(call(self, leads_to, made, "b", 0, conditions), pairs[-1] if pairs[-1][0] == "a" else ())
            self.assertEqual(chain(made, "n", 0, conditions), (("a", 3),) if "e" in conditions else ())
            self.assertEqual(leads_to(made, "m", 0, conditions), (pairs[-1][0], pairs[-1][1] - 1) if pairs[-1][0] == "a" else ())


class PassedTest(unittest.TestCase):

    def test_in_the_words(self):
        counts = {"row": 0, "put": 0, "order": 0, "several": 0, "wait": 0}
        for rng, source, made in some(161, 350):
            if rng.random() < 0.3:
                made = with_waits(made, made[3] + random_waits(rng, names_in(made), 6, 1))
            if rng.random() < 0.3:
                boxes = [name for name, home in made[5] if home[0] == "cells"]
                made = (*made[:6], tuple(zip(boxes, boxes[1:])))
            for name in moves_of(made):
                other = call(self, passed, made, name)
                self.assertEqual(other, passed_by_hand(made, name))
                counts["row"] += len(other[2]) < len(made[2])
                counts["put"] += not set(other[3]) <= set(made[3])
                counts["order"] += not set(other[6]) <= set(made[6])
                counts["several"] += len(moves_of(made)) > 1
                counts["wait"] += other[3] != () and other[3] == made[3]
                stops = [move for move, place, tree in other[1] if place[1] == 0]
                self.assertTrue(is_made(source, other) or stops)
                for reader, trees in trees_by_name(other).items():
                    for read, conditions in itertools.product(range(len(trees)), all_conditions(source)):
                        kept = tuple(pair for pair in chain(made, reader, read, conditions) if pair[0] != name)
                        self.assertEqual(chain(other, reader, read, conditions), kept)
        self.assertGreater(min(counts.values()), 10, counts)

    def test_distances_of_all_others_are_as_before(self):
        many = 0
        for rng, source, made in some(162, 500):
            if rng.random() < 0.5:
                made = with_waits(made, made[3] + random_waits(rng, names_in(made), 6, 2))
            for name in moves_of(made):
                kept = tuple(triple for triple in gaps(made) if name not in triple[:2])
                many += kept != ()
                self.assertEqual(gaps(passed(made, name)), kept, (made, name))
        self.assertGreater(many, 300)

    def test_rows(self):
        masks = {name: "; ".join(f"{part} -" for part in sorted(name)) for name in ("abm", "am", "m")}
        homes = {"abm": "a 0; b 1; m 1 1 0", "am": "a 0; m 1 1 0", "m": "m 1 1 0"}
        for names, rows, waits, left, expected in [
            ("abm", "a m b", "-", (("a", "b"),), ()),
            ("abm", "m a b", "-", (("a", "b"),), ()),
            ("abm", "a b m", "-", (("a", "b"),), ()),
            ("abm", "a; m; b", "-", (("a",), ("b",)), ()),
            ("abm", "a; m b", "a m 0", (("a",), ("b",)), (("a", "b", 0),)),
            ("abm", "a; b m", "a m 1", (("a",), ("b",)), (("a", "b", 2),)),
            ("abm", "a; m b", "m a 2", (("a",), ("b",)), (("b", "a", 3),)),
            ("abm", "a b; m", "b m 0; m a 1", (("a", "b"),), (("b", "a", 1),)),
            ("abm", "a b; m", "a m 0; m a 1", (("a", "b"),), ()),
            ("abm", "a b; m", "a m 0; m a 0", (("a", "b"),), (("a", "a", 0),)),
            ("abm", "a b; m", "a b 1; a b 3; m m 2", (("a", "b"),), (("a", "b", 1),)),
            ("abm", "a; -; m b", "a b 2; a m 1; a m 3", (("a",), ("b",)), (("a", "b", 1),)),
            ("abm", "a; m; b", "a b 1; a m 1; m b 1", (("a",), ("b",)), (("a", "b", 1),)),
            ("abm", "a; m; b", "a b 4; a m 1; m b 1", (("a",), ("b",)), (("a", "b", 2),)),
            ("abm", "a m b", "a m 1", (("a", "b"),), (("a", "b", 1),)),
            ("abm", "a m b", "a m 0; m b 0", (("a", "b"),), (("a", "b", 0),)),
            ("am", "a m; -", "-", (("a",),), ()), ("am", "-; m; a", "m a 0", (("a",),), ()), ("m", "m; -", "-", ((),), ()),
        ]:
            steps = "; ".join(part for part in "ab" if part in names) or "-"
            made = made_from(f"{steps} | m x.1.0 - | {rows} | {waits} | {masks[names]} | {homes[names]} | -")
            self.assertEqual(call(self, passed, made, "m")[2:4], (left, expected), (rows, waits))

    def test_trees_and_parts(self):
        made = made_from("a; b m.1, c? - m.0; d m.3, a.0 | m x.1.1 e? a.1 b.2; n x.1.3 m.2 | a n m b d | - | a -; b c; d -; m e; n - | a 8 1 3; b 4 1 2; d 0; m 2 1 1; n 4 1 2 | a m; a n; m b; n m")
        other = call(self, passed, made, "m")
        self.assertEqual(other[0], (("a", ()), ("b", (("e", ("a", 2), ("b", 3)), ("c", (), ("e", ("a", 1), ("b", 2))))), ("d", (("e", ("a", 4), ("b", 5)), ("a", 0)))))
        self.assertEqual(other[1], (("n", ("x", 1, 3), ("e", ("a", 3), ("b", 4))),))
        self.assertEqual(other[2:5], ((("a", "n", "b", "d"),), (), (("a", ((),)), ("b", (("c",),)), ("d", ((),)), ("n", ((),)))))
        self.assertEqual(other[5:], ((("a", ("cells", 8, 1, 3)), ("b", ("cells", 4, 1, 2)), ("d", ("seat", 0)), ("n", ("cells", 4, 1, 2))), (("a", "b"), ("a", "n"), ("n", "b"))))
        first = call(self, passed, made, "n")
        self.assertEqual((first[0], first[1], first[6]), (made[0], made[1][:1], (("a", "m"), ("m", "b"))))
        # A TREE that leads to a first letter alone.
        letter = made_from("b m.2 | m x.1.1 - | m b | - | b -; m - | b 0; m 4 1 2 | -")
        self.assertEqual(passed(letter, "m"), made_from("b - | - | b | - | b - | b 0 | -"))

    def test_no_name(self):
        for name in ("a", "b", "z", "", "M"):
            raises(self, f"NoName(name={name!r})", passed, MADE, name)


def put_by_hand(source, made, reader, read, move, hand, place, home):
    """The MADE with this MOVE more, as [21] says it."""
    steps, moves, rows, waits, masks, homes, order = made
    trees = {name: list(found) for name, found in trees_by_name(made).items()}
    tree, trees[reader][read] = trees[reader][read], (move, 0)
    places = {name: found for name, found, _ in moves}
    own = places[reader] if reader in places else {name: found for name, _, _, found in source[0]}[reader][read]
    rows = [list(row) for row in rows]
    rows[hand].insert(place, move)
    words, waiting = [], [tree]
    while waiting:
        part = waiting.pop()
        words += [part] if len(part) == 2 else []
        waiting += part[1:] if len(part) == 3 else []
    put = [(name, move, d) for name, d in words] + [(move, reader, 0)]
    return (
        tuple((name, tuple(trees[name])) for name, _ in steps),
        tuple(sorted([(name, found, trees[name][0]) for name, found, _ in moves] + [(move, own, tree)])),
        tuple(tuple(row) for row in rows), least_of_two([*waits, *put]), tuple(sorted([*masks, (move, mask_of(made, reader))])),
        tuple(sorted([*homes, (move, home)])),
        tuple(sorted([*order, *((name, move) for name, other in homes if other[0] == "cells")])),
    )


class PutInTest(unittest.TestCase):

    def test_at_each_hand_and_place(self):
        counts = {"put": 0, "stuck": 0, "through a move": 0, "not made": 0}
        for rng, source, made in some(163, 110):
            if rng.random() < 0.5:
                made = rng.choice([safe_made, near_made])(rng, source)
            reads = [(name, read) for name, trees in trees_by_name(made).items() for read in range(len(trees))]
            for reader, read in reads:
                free = []
                for hand, row in enumerate(made[2]):
                    for place in range(len(row) + 1):
                        home, move = buffer(rng.randint(1, 5)), rng.choice(["k", "zz"])
                        expected = put_by_hand(source, made, reader, read, move, hand, place, home)
                        if is_stuck(expected[2], expected[3]):
                            counts["stuck"] += 1
                            raises(self, "Stuck()", put_in, source, made, reader, read, move, hand, place, home)
                            continue
                        counts["put"] += 1
                        counts["through a move"] += reader in moves_of(made)
                        free.append((hand, place))
                        other = call(self, put_in, source, made, reader, read, move, hand, place, home)
                        self.assertEqual(other, expected)
                        self.check_put(source, made, other, reader, read, move)
                        counts["not made"] += not is_made(source, other)
                self.assertEqual(call(self, places_for, source, made, reader, read), tuple(free))
        self.assertGreater(min(counts.values()), 10, counts)

    def check_put(self, source, made, other, reader, read, move):
        for name, trees in trees_by_name(made).items():
            for number, conditions in itertools.product(range(len(trees)), all_conditions(source)):
                pairs = chain(made, name, number, conditions)
                if (name, number) == (reader, read):
                    self.assertEqual(chain(other, name, number, conditions), ((move, 0),) + pairs)
                    self.assertEqual(chain(other, move, 0, conditions), pairs)
                elif (reader, 0) not in [(pair[0], read) for pair in pairs]:
                    self.assertEqual(chain(other, name, number, conditions), pairs)
        back = passed(other, move)
        self.assertEqual((back[0], back[1], back[4:6]), (made[0], made[1], made[4:6]))
        self.assertEqual(back[2], tuple(row for row in made[2] if row) or ((),))

    def test_a_right_made_stays_right_if_its_cells_are_enough(self):
        counts = {True: 0, False: 0}
        for rng, source, made in some(164, 250):
            if rng.random() < 0.7:
                made = rng.choice([safe_made, near_made])(rng, source)
            if not is_right(source, made):
                continue
            for name, trees in trees_by_name(made).items():
                for read in range(len(trees)):
                    for hand, place in places_for(source, made, name, read):
                        other = put_in(source, made, name, read, "m" if "m" not in names_in(made) else "k", hand, place, buffer(rng.randint(1, 3)))
                        if is_made(source, other):
                            counts[is_right(source, other)] += 1
                            self.assertIs(is_right(source, other), too_few(source, other) == ())
        self.assertGreater(min(counts.values()), 20, counts)

    def test_waits_of_a_read_with_conditions(self):
        source = source_from("a - x.0.0; b +c x.0.0; d* - y.1.0 x.0.0 x.0.0")
        made = made_from("a; b; d c? a.0 b.0, c? b.1 b.0 | - | a b d | a d 1; a d 2 | a -, c; b c; d -, c | a 2 1 1; b 1 1 0; d 1 1 0 | a b; b d")
        other = call(self, put_in, source, made, "d", 0, "m", 0, 2, HOME)
        self.assertEqual(other[3], (("a", "d", 1), ("a", "m", 0), ("b", "m", 0), ("m", "d", 0)))
        self.assertEqual(put_in(source, made, "d", 1, "m", 0, 2, HOME)[3], (("a", "d", 1), ("b", "m", 0), ("m", "d", 0)))
        self.assertEqual(other[6], (("a", "b"), ("a", "m"), ("b", "d"), ("b", "m"), ("d", "m")))
        self.assertEqual((trees_of(other, "m"), trees_of(other, "d")), ((("c", ("a", 0), ("b", 0)),), (("m", 0), ("c", ("b", 1), ("b", 0)))))
        self.assertEqual((other[1][0][1], mask_of(other, "m")), (("x", 0, 0), ((), ("c",))))
        self.assertEqual(places_for(source, made, "d", 0), ((0, 2),))

    def test_a_read_of_a_move(self):
        other = call(self, put_in, SOURCE, MADE, "m", 0, "k", 0, 0, HOME)
        self.assertEqual(other[1], (("k", ("x", 1, 1), ("a", 1)), ("m", ("x", 1, 1), ("k", 0))))
        self.assertEqual((other[2], other[3], is_right(SOURCE, other)), ((("k", "a", "m", "b"),), (("a", "k", 1), ("k", "m", 0)), True))
        self.assertEqual(other[6], (("a", "k"), ("a", "m"), ("m", "k")))

    def test_a_letter_for_ever(self):
        source = source_from("b* - y.1.0 x.0.0")
        other = call(self, put_in, source, plain_made(source), "b", 0, "m", 0, 0, HOME)
        self.assertEqual((other[1], is_made(source, other)), ((("m", ("x", 0, 0), ()),), False))

    def test_errors_in_their_order(self):
        stuck = with_waits(MADE, (("b", "a", 0),))
        for made in (MADE, stuck):
            for name in ("z", "", "A"):
                for function, more in ((chain, ((),)), (leads_to, ((),))):
                    raises(self, f"NoName(name={name!r})", function, made, name, 7, *more)
                raises(self, f"NoName(name={name!r})", put_in, SOURCE, made, name, 7, "a", 7, 7, HOME)
                raises(self, f"NoName(name={name!r})", places_for, SOURCE, made, name, 7)
            for name, read in [("a", 0), ("a", -1), ("b", 1), ("b", -1), ("m", 1), ("m", -1), ("b", 10 ** 30)]:
                for function, more in ((chain, ((),)), (leads_to, ((),))):
                    raises(self, f"NoNumber(number={read})", function, made, name, read, *more)
                raises(self, f"NoNumber(number={read})", put_in, SOURCE, made, name, read, "a", 7, 7, HOME)
                raises(self, f"NoNumber(number={read})", places_for, SOURCE, made, name, read)
            for move in ("a", "b", "m"):
                raises(self, f"Known(name={move!r})", put_in, SOURCE, made, "b", 0, move, 7, 7, HOME)
            for hand in (1, -1, 10 ** 30):
                raises(self, f"NoNumber(number={hand})", put_in, SOURCE, made, "b", 0, "k", hand, 7, HOME)
            for place in (4, -1, 10 ** 30):
                raises(self, f"NoNumber(number={place})", put_in, SOURCE, made, "b", 0, "k", 0, place, HOME)
        raises(self, "Stuck()", put_in, SOURCE, stuck, "b", 0, "k", 0, 2, HOME)
        raises(self, "Stuck()", put_in, SOURCE, MADE, "b", 0, "k", 0, 3, HOME)
        self.assertEqual((places_for(SOURCE, stuck, "b", 0), places_for(SOURCE, MADE, "b", 0)), ((), ((0, 0), (0, 1), (0, 2))))
        # A STATEMENT that the MADE has not is known, too.
        source = source_from("a - x.1.2; b* - y.1.0 x.1.0; d - z.1.0")
        raises(self, "Known(name='d')", put_in, source, MADE, "b", 0, "d", 0, 0, HOME)
        raises(self, "NoName(name='d')", places_for, source, MADE, "d", 0)


class FewestTest(unittest.TestCase):

    def others_passed(self, made, kept):
        for name in moves_of(made):
            if name not in kept:
                made = passed(made, name)
        return made

    def does(self, source, made):
        return is_made(source, made) and is_right(source, made)

    def test_beside_passing_each_and_each_set(self):
        counts = {"needless": 0, "needed": 0, "none": 0, "less": 0, "all": 0}
        for rng, source, made in some(165, 350):
            if rng.random() < 0.8:
                source = even_source(rng, 3, "xy", (1, 1), 2)
                made = self.with_more_moves(rng, source)
            names = moves_of(made)
            needless = [name for name in names if self.does(source, passed(made, name))]
            self.assertEqual(call(self, needless_moves, source, made), tuple(needless))
            right = [kept for kept in all_subsets(names) if self.does(source, self.others_passed(made, kept))]
            expected = min(right, key=lambda kept: (len(kept), kept), default=None)
            self.assertEqual(call(self, fewest_moves, source, made), expected)
            counts["needless"] += len(needless)
            counts["needed"] += is_right(source, made) and len(needless) < len(names)
            counts["none" if expected is None else "all" if len(expected) == len(names) else "less"] += 1
        self.assertGreater(min(counts.values()), 15, counts)

    def with_more_moves(self, rng, source):
        """A MADE that is not far from right, with some MOVES put in, the order or the cells of some names too few then."""
        made = rng.choice([safe_made(rng, source), near_made(rng, source), plain_made(source)])
        boxes = [name for name, home in made[5] if home[0] == "cells"]
        made = (*made[:6], tuple(zip(boxes, boxes[1:])))
        for move in "kmn"[:rng.randint(1, 3)]:
            reads = [(name, read) for name, trees in trees_by_name(made).items() for read in range(len(trees))]
            far = [(name, read) for name, read in reads if any(d > 0 for _, d in chain(made, name, read, ()))]
            for name, read in rng.sample(far or reads, min(1, len(reads))):
                places = places_for(source, made, name, read)
                if places:
                    tried = [put_in(source, made, name, read, move, *place, buffer(2)) for place in places]
                    longer = [self.kept_longer(other, name, read, move) for other in tried]
                    made = rng.choice([other for other in longer if not is_stuck(other[2], other[3])] or tried)
        few = with_least_cells(source, made) if not is_stuck(made[2], made[3]) else None
        for name, home in few[5] if few else ():
            if home[0] == "cells":
                made = with_home(made, name, home)
        return made if is_made(source, made) else plain_made(source)

    def kept_longer(self, made, reader, read, move):
        """The MADE in which the MOVE, that was put in just now, hands on a turn more, and its writer a turn less."""
        name, (array, a, b), tree = next(row for row in made[1] if row[0] == move)
        if len(tree) != 2 or tree[1] == 0 or reader in moves_of(made):
            return made
        moves = tuple((move, (array, a, b + a), (tree[0], tree[1] - 1)) if row[0] == move else row for row in made[1])
        trees = trees_of(made, reader)
        steps = {**dict(made[0]), reader: (*trees[:read], (move, 1), *trees[read + 1:])}
        waits = [wait for wait in made[3] if move not in wait[:2]] + [(tree[0], move, tree[1] - 1), (move, reader, 1)]
        return with_waits((tuple(sorted(steps.items())), moves, *made[2:]), waits)

    def test_a_move_that_is_needed(self):
        # a writes its next value ahead of b's read; m keeps the one that b reads.
        made = made_from("a; b m.1 | m x.1.1 a.1 | m a b | - | a -; b -; m - | a 0; b 1; m 2 1 1 | -")
        self.assertEqual((is_right(SOURCE, made), needless_moves(SOURCE, made), fewest_moves(SOURCE, made)), (True, (), ("m",)))
        both = put_in(SOURCE, made, "b", 0, "k", 0, 2, HOME)
        self.assertEqual((is_made(SOURCE, both), chain(both, "b", 0, ())), (True, (("k", 0), ("m", 1), ("a", 2))))
        self.assertEqual((needless_moves(SOURCE, both), fewest_moves(SOURCE, both)), (("k",), ("m",)))
        wrong = with_home(both, "b", ("seat", 0))
        self.assertEqual((needless_moves(SOURCE, wrong), fewest_moves(SOURCE, wrong)), ((), None))
        # Either one of two is enough; then the least one is told.
        pair = made_from("a; b k.1 | k x.1.1 m.0; m x.1.1 a.1 | m k a b | - | a -; b -; k -; m - | a 0; b 1; k 2 1 1; m 2 1 1 | k m")
        self.assertEqual((is_right(SOURCE, pair), needless_moves(SOURCE, pair), fewest_moves(SOURCE, pair)), (True, ("k", "m"), ("k",)))

    def test_none_of_them(self):
        self.assertEqual((needless_moves(SOURCE, plain_made(SOURCE)), fewest_moves(SOURCE, plain_made(SOURCE))), ((), ()))
        stuck = with_waits(MADE, (("b", "a", 0),))
        self.assertEqual((needless_moves(SOURCE, stuck), fewest_moves(SOURCE, stuck)), ((), None))
        # Passed, a move takes a ring with it that goes through itself alone.
        own = with_waits(MADE, (("m", "m", 0),))
        self.assertEqual((is_right(SOURCE, own), needless_moves(SOURCE, own), fewest_moves(SOURCE, own)), (False, (), None))
        wide = with_home(own, "a", ("cells", 4, 1, 2))
        self.assertEqual((needless_moves(SOURCE, wide), fewest_moves(SOURCE, wide)), (("m",), ()))


class WaysTest(unittest.TestCase):

    def test_nothing_is_lost_by_waits_that_are_needed(self):
        """What is put together keeps all RUNS of the others, and no more."""
        for rng, source, made in some(166, 80):
            for name in moves_of(made):
                other = passed(made, name)
                if not is_stuck(other[2], other[3]):
                    least = needed_waits(other[2], other[3])
                    self.assertEqual(gaps(with_waits(other, least)), gaps(other))
                for one, to in itertools.product(names_in(other), repeat=2):
                    self.assertEqual(least_gap(other, one, to), least_gap(made, one, to))
                self.assertTrue(all(name not in arrow[:2] for arrow in arrows(other[2], other[3])))

    def test_a_made_without_rows_of_names(self):
        made = made_from("- | m x.1.0 - | -; m; - | - | m - | m 1 1 0 | -")
        self.assertEqual(passed(made, "m"), ((), (), ((),), (), (), (), ()))
        self.assertEqual(with_rows(passed(made, "m"), ((),)), passed(made, "m"))


class ExamplesTest(unittest.TestCase):

    def test_examples(self):
        check_examples(self, EXAMPLES, names_for("moves"))


if __name__ == "__main__":
    unittest.main()
