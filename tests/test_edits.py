"""Edits [25]: each EDIT in its own words, the way back, and Watches beside what they were told."""

import copy
import itertools
import unittest

from builtahead.edits import (
    Watch, do_commute, edited, is_edit, is_right_way, may_wait, undone_by, way_of_waits,
)
from builtahead.errors import MadeError, NotMade
from builtahead.flows import all_conditions
from builtahead.hands import is_stuck
from builtahead.lastword import faults, first_fault, is_right
from builtahead.mades import is_made, made_from, names_in, plain_made, with_home, with_waits
from builtahead.sources import source_from
from tests.tools import (
    ODD_THINGS, call, check_examples, dice, has_list, listed, names_for, outcome, raises, random_waits, thing_variants,
)
from tests.worlds import buffer, even_source, near_made, random_made, random_order, safe_made

EXAMPLES = """
    >>> source = ((("a", (), ("x", 1, 0), ()), ("b", (), ("y", 1, 0), (("x", 1, 0),))), ("b",))
    >>> made = made_from("a; b a.0 | - | a; b | a b 0; b a 2 | a -; b - | a 2 1 1; b 0 | -")
    >>> seat, tight, drop = ("home", "a", ("seat", 3)), ("put wait", "b", "a", 1), ("drop wait", "b", "a", 2)
    >>> edited(source, made, ("move", "b", 0, 1))[2], undone_by(made, ("move", "b", 0, 1)), do_commute(source, made, seat, tight), may_wait(made, "b", "a", 0)
    ((('a', 'b'), ()), ('move', 'b', 1, 0), True, False)
    >>> watch = Watch(source, made)
    >>> watch.do(seat), watch.right(), watch.do(tight), watch.right(), watch.do(drop), watch.back_alone(0), watch.made[3], watch.right(), len(watch)
    (None, False, None, True, None, None, (('a', 'b', 0), ('b', 'a', 1)), True, 2)
    >>> way_of_waits(source, made, watch.made) == (tight, drop), is_right_way(source, made, watch.made, (drop, tight))
    (True, False)
    >>> edited(source, made, ("home", "a", ("cells", 2, 1, 0)))
    raises NotMade()
"""

SOURCE = source_from("a - x.1.0; b* - y.1.0 x.1.0")
MADE = made_from("a; b a.0 | - | a; b | a b 0; b a 2 | a -; b - | a 2 1 1; b 0 | -")
UNEVEN = source_from("a - x.1.0; b* - y.1.0 x.2.0")
# One of each word, by which something is changed.
EDITS = [
    ("put wait", "b", "a", 1), ("drop wait", "b", "a", 2), ("put pair", "a", "b"), ("drop pair", "a", "b"),
    ("exchange", 0, 0), ("move", "b", 0, 1), ("home", "a", ("seat", 3)), ("home", "b", ("cells", 1, 1, 0)), ("mask", "b", ()),
    ("mask", "a", ((),)), ("tree", "b", 0, ("a", 1)), ("tree", "b", 0, ("c", (), ("a", 0))),
]
RIGHT = [
    *EDITS, ("put wait", "zz", "zz", 10 ** 40), ("exchange", 10 ** 40, 0), ("move", "zz", 99, 99), ("home", "zz", ("seat", 10 ** 30)),
    ("home", "zz", ("cells", 10 ** 30, 0, 10 ** 30)), ("mask", "zz", ((), ("c",), ("c", "d", "e", "f", "g"), ("zz",))), ("mask", "zz", ()),
    ("tree", "zz", 7, ()), ("tree", "zz", 7, ("c", ("e", (), ("q", 99)), ("q", 0))),
]
WRONG = [
    (), ("put wait",), ("put wait", "a", "b"), ("put wait", "a", "b", 0, 0), ("put wait", "a", "b", -1), ("put wait", "a", "b", True),
    ("put wait", "a", "b", "0"), ("put wait", "A", "b", 0), ("put wait", "a", "", 0), ("drop wait", "a", "abcdefghi", 0), ("put", "a", "b", 0),
    ["put wait", "a", "b", 0], (["put wait"], "a", "b", 0), (("put wait",), "a", "b", 0), ("put pair", "a", 0), ("drop pair", "a"),
    ("exchange", 0, -1), ("exchange", "a", 0), ("exchange", 0, False), ("exchange", 0, 0, 0), ("move", 0, 0, 0), ("move", "a", 0),
    ("home", "a", ("seat", -1)), ("home", "a", ("cells", 0, 0, 0)), ("home", "a", ("cells", 1, 0)), ("home", "a", ["seat", 0]), ("home", "a", ("seat",)),
    ("home", "a", ("seat", 0, 0, 0)), ("home", "a", ()), ("home", "a", None), ("mask", "a", [()]), ("mask", "a", ((), ())), ("mask", "a", (("b", "a"),)),
    ("mask", "a", (("c",), ())), ("mask", "a", ("c",)), ("mask", "a", (("C",),)), ("mask", "a", ((["c"]),)), ("tree", "a", 0, ("b",)),
    ("tree", "a", 0, ("b", True)), ("tree", "a", 0, ("b", -1)), ("tree", "a", 0, ("B", 1)), ("tree", "a", 0, ["b", 1]), ("tree", "a", -1, ()),
    ("tree", "a", 0, None), ("tree", "a", 0, ("C", (), ())), ("Tree", "a", 0, ()), ("", "a", 0), (None, "a", 0), (0, 0, 0), ("move", "a", 0, None),
]


def some(seed, count):
    rng = dice(seed)
    for _ in range(count):
        source = even_source(rng, 3)
        yield rng, source, rng.choice([random_made, safe_made, near_made])(rng, source)


def random_edit(rng, source, made):
    """An EDIT, many of which are refused."""
    names = list(names_in(made)) + ["zz"] * (rng.random() < 0.05)
    one, other, number = rng.choice(names), rng.choice(names), rng.choice([0, 0, 0, 1, 1, 2])
    boxes = [name for name, home in made[5] if home[0] == "cells"] if rng.random() < 0.8 else names
    kind = rng.randint(0, 9)
    if kind == 0:
        return ("put wait", one, other, number)
    if kind == 1:
        return ("drop wait", *rng.choice(made[3] if made[3] and rng.random() < 0.8 else [(one, other, number)]))
    if kind == 2 and len(boxes) > 1:
        return ("put pair", *sorted(rng.sample(boxes, 2)))
    if kind == 3:
        return ("drop pair", *rng.choice(made[6] if made[6] and rng.random() < 0.8 else [(one, other)]))
    if kind == 4:
        return ("exchange", rng.randint(0, 2), number)
    if kind == 5:
        return ("move", one, rng.randint(0, 2), rng.randint(0, 3))
    if kind == 6:
        return ("home", one, rng.choice([("seat", number), buffer(number + 1), ("cells", number + 1, 1, 0)]))
    if kind == 7:
        every = all_conditions(source)
        return ("mask", one, tuple(part for part in every if rng.random() < 0.6) + ((("zz",),) if rng.random() < 0.05 else ()))
    leaf = (rng.choice(names), number)
    return ("tree", one, rng.choice([0, 0, 1]), rng.choice([(), leaf, ("c", (), leaf), ("c", leaf, ())]))


def edited_by_hand(source, made, edit):
    """The MADE behind an EDIT as [25] tells it, or the text of what it raises."""
    word, *told = edit
    names = [part for part in told if isinstance(part, str)]
    for name in names:
        if name not in names_in(made):
            return f"raises NoName(name={name!r})"
    steps, moves, rows, waits, masks, homes, order = made
    rows = [list(row) for row in rows]
    if word in ("put wait", "drop wait"):
        waits = {wait for wait in waits if wait != tuple(told)} | ({tuple(told)} if word == "put wait" else set())
    elif word in ("put pair", "drop pair"):
        order = {pair for pair in order if pair != tuple(told)} | ({tuple(told)} if word == "put pair" else set())
    elif word == "exchange":
        hand, place = told
        if hand >= len(rows):
            return f"raises NoNumber(number={hand})"
        if place + 1 >= len(rows[hand]):
            return f"raises NoNumber(number={place})"
        rows[hand][place], rows[hand][place + 1] = rows[hand][place + 1], rows[hand][place]
    elif word == "move":
        name, hand, place = told
        rows = [[other for other in row if other != name] for row in rows]
        if hand >= len(rows):
            return f"raises NoNumber(number={hand})"
        if place > len(rows[hand]):
            return f"raises NoNumber(number={place})"
        rows[hand].insert(place, name)
    elif word == "home":
        homes = [(name, told[1] if name == told[0] else home) for name, home in homes]
    elif word == "mask":
        masks = [(name, told[1] if name == told[0] else mask) for name, mask in masks]
    else:
        name, number, tree = told
        if number >= len({**dict(steps), **{move: (own,) for move, _, own in moves}}[name]):
            return f"raises NoNumber(number={number})"
        steps = [(step, tuple(tree if (step, at) == (name, number) else own for at, own in enumerate(trees))) for step, trees in steps]
        moves = [(move, place, tree if move == name else own) for move, place, own in moves]
    found = (
        tuple(steps), tuple(moves), tuple(tuple(row) for row in rows), tuple(sorted(waits)), tuple(masks), tuple(homes),
        tuple(sorted(order)),
    )
    return found if is_made(source, found) else "raises NotMade()"


class EditTest(unittest.TestCase):

    def test_is_edit(self):
        for edit in RIGHT:
            self.assertIs(call(self, is_edit, edit), True, edit)
            for thing in thing_variants(edit):
                self.assertIs(is_edit(thing), self.is_edit_by_hand(thing), thing)
        for thing in WRONG + ODD_THINGS:
            self.assertIs(is_edit(thing), False, thing)

    def is_edit_by_hand(self, thing):
        """Whether thing is an EDIT: its text is that of one with the same word, with all kinds of parts looked at one by one."""
        def is_name(part):
            return type(part) is str and 0 < len(part) < 9 and all("a" <= sign <= "z" for sign in part)

        def is_number(part):
            return type(part) is int and part >= 0

        def is_home(part):
            if type(part) is not tuple or part[:1] not in (("seat",), ("cells",)) or not all(is_number(one) for one in part[1:]):
                return False
            return len(part) == 2 if part[0] == "seat" else len(part) == 4 and part[1] > 0

        def is_set(part, is_one):
            if type(part) is not tuple or not all(is_one(one) for one in part):
                return False
            return list(part) == sorted(set(part))

        def is_mask(part):
            return is_set(part, lambda one: is_set(one, is_name))

        def is_tree(part):
            if type(part) is not tuple or len(part) not in (0, 2, 3):
                return False
            if len(part) == 3:
                return is_name(part[0]) and is_tree(part[1]) and is_tree(part[2])
            return part == () or is_name(part[0]) and is_number(part[1])
        kinds = {
            "put wait": [is_name, is_name, is_number], "drop wait": [is_name, is_name, is_number], "put pair": [is_name, is_name],
            "drop pair": [is_name, is_name], "exchange": [is_number, is_number], "move": [is_name, is_number, is_number],
            "home": [is_name, is_home], "mask": [is_name, is_mask], "tree": [is_name, is_number, is_tree],
        }
        if type(thing) is not tuple or not thing or type(thing[0]) is not str or thing[0] not in kinds:
            return False
        return len(thing) == 1 + len(kinds[thing[0]]) and all(kind(part) for kind, part in zip(kinds[thing[0]], thing[1:]))

    def test_edited_in_the_words(self):
        counts = {}
        for rng, source, made in some(200, 300):
            for _ in range(5):
                edit = random_edit(rng, source, made)
                expected = edited_by_hand(source, made, edit)
                if isinstance(expected, str):
                    raises(self, expected.removeprefix("raises "), edited, source, made, edit)
                    counts[expected[:14]] = counts.get(expected[:14], 0) + 1
                else:
                    self.assertEqual(call(self, edited, source, made, edit), expected)
                    key = edit[0] + " " * (expected == made)
                    counts[key] = counts.get(key, 0) + 1
        for word in ("raises NoName(", "raises NoNumbe", "raises NotMade", "put wait", "drop wait", "put pair", "drop pair", "exchange", "move", "home", "mask", "tree"):
            self.assertGreater(counts[word], 8, counts)
        for word in ("put wait ", "drop wait ", "put pair ", "drop pair ", "move ", "home ", "mask ", "tree "):
            self.assertGreater(counts[word], 0, counts)

    def test_undone_by_leads_back(self):
        changed = same = 0
        for rng, source, made in some(201, 250):
            for _ in range(5):
                edit = random_edit(rng, source, made)
                found = edited_by_hand(source, made, edit)
                if isinstance(found, str):
                    if "NotMade" not in found:
                        raises(self, found.removeprefix("raises "), undone_by, made, edit)
                    continue
                back = call(self, undone_by, made, edit)
                self.assertIs(is_edit(back), True)
                self.assertEqual(edited(source, found, back), made)
                word = edit[0]
                if found != made and word[:3] == "put":
                    word = "drop" + word[3:]
                elif found != made and word[:4] == "drop":
                    word = "put" + word[4:]
                self.assertEqual(back[0], word)
                changed, same = changed + (found != made), same + (found == made)
                if found == made:
                    self.assertEqual(back, edit)
        self.assertGreater(min(changed, same), 30)

    def test_undone_by_of_what_is_refused_then(self):
        # Nothing is said of a SOURCE, so it is told also if the EDIT leads to what is not MADE of any.
        for edit, back in [
            (("home", "a", ("cells", 2, 1, 0)), ("home", "a", ("cells", 2, 1, 1))), (("put pair", "a", "b"), ("drop pair", "a", "b")),
            (("drop pair", "a", "b"), ("drop pair", "a", "b")), (("mask", "a", (("zz",),)), ("mask", "a", ((),))), (("tree", "b", 0, ("zz", 1)), ("tree", "b", 0, ("a", 0))),
            (("put wait", "a", "b", 0), ("put wait", "a", "b", 0)), (("drop wait", "a", "b", 0), ("put wait", "a", "b", 0)),
            (("drop wait", "a", "b", 1), ("drop wait", "a", "b", 1)), (("move", "a", 0, 0), ("move", "a", 0, 0)), (("move", "a", 1, 0), ("move", "a", 0, 0)),
        ]:
            self.assertEqual(call(self, undone_by, MADE, edit), back)
        one = made_from("a; b a.0 | - | a b; - | - | a -; b - | a 2 1 1; b 0 | -")
        self.assertEqual(undone_by(one, ("exchange", 0, 0)), ("exchange", 0, 0))
        self.assertEqual(undone_by(one, ("move", "b", 0, 0)), ("move", "b", 0, 1))

    def test_errors_in_their_order(self):
        for edit, error in [
            (("put wait", "y", "z", 0), "NoName(name='y')"), (("drop wait", "a", "z", 0), "NoName(name='z')"), (("put pair", "z", "y"), "NoName(name='z')"),
            (("drop pair", "b", "y"), "NoName(name='y')"), (("move", "z", 7, 7), "NoName(name='z')"), (("home", "z", ("seat", 0)), "NoName(name='z')"),
            (("mask", "z", ()), "NoName(name='z')"), (("tree", "z", 7, ()), "NoName(name='z')"), (("exchange", 2, 9), "NoNumber(number=2)"),
            (("exchange", 1, 9), "NoNumber(number=9)"), (("exchange", 1, 0), "NoNumber(number=0)"), (("move", "a", 2, 9), "NoNumber(number=2)"),
            (("move", "a", 0, 1), "NoNumber(number=1)"), (("move", "a", 1, 2), "NoNumber(number=2)"), (("tree", "a", 0, ()), "NoNumber(number=0)"),
            (("tree", "b", 1, ("z", 0)), "NoNumber(number=1)"),
        ]:
            raises(self, error, edited, SOURCE, MADE, edit)
            raises(self, error, undone_by, MADE, edit)
            # The SOURCE is asked for last.
            raises(self, error, edited, source_from("q - x.1.0"), MADE, edit)
            self.assertIs(call(self, do_commute, SOURCE, MADE, edit, EDITS[0]), False)
        for edit in [
            ("put pair", "a", "b"), ("put pair", "a", "a"), ("home", "a", ("cells", 2, 1, 0)), ("mask", "a", (("c",),)), ("tree", "b", 0, ("z", 0)),
            ("tree", "b", 0, ("c", (), ())),
        ]:
            raises(self, "NotMade()", edited, SOURCE, MADE, edit)
        raises(self, "NotMade()", edited, source_from("q - x.1.0"), MADE, ("put wait", "b", "a", 2))
        move = made_from("a; b m.0 | m x.1.0 a.0 | a m b | - | a -; b -; m - | a 1 1 0; b 0; m 1 1 0 | a m")
        raises(self, "NoNumber(number=1)", edited, SOURCE, move, ("tree", "m", 1, ()))
        raises(self, "NotMade()", edited, SOURCE, move, ("home", "m", ("seat", 0)))
        raises(self, "NotMade()", edited, SOURCE, move, ("tree", "m", 0, ("m", 1)))
        raises(self, "NotMade()", edited, SOURCE, move, ("put pair", "m", "a"))
        self.assertEqual(edited(SOURCE, move, ("tree", "m", 0, ("a", 3)))[1], (("m", ("x", 1, 0), ("a", 3)),))
        # Nobody asks here whether the SOURCE is even.
        self.assertEqual(edited(UNEVEN, MADE, ("drop wait", "b", "a", 2)), with_waits(MADE, (("a", "b", 0),)))

    def test_do_commute(self):
        counts = {True: 0, "refused": 0, "unlike": 0}
        for rng, source, made in some(202, 300):
            for _ in range(4):
                one, other = random_edit(rng, source, made), random_edit(rng, source, made)
                found = []
                for edits in ((one, other), (other, one)):
                    here = made
                    for edit in edits:
                        here = here if isinstance(here, str) else edited_by_hand(source, here, edit)
                    found.append(here)
                refused = any(isinstance(here, str) for here in found)
                expected = not refused and found[0] == found[1]
                counts[True if expected else "refused" if refused else "unlike"] += 1
                self.assertIs(call(self, do_commute, source, made, one, other), expected)
        self.assertGreater(min(counts.values()), 10, counts)


class WaitsTest(unittest.TestCase):

    def test_may_wait(self):
        counts = {True: 0, False: 0}
        for rng, source, made in some(203, 250):
            for one, other in itertools.product(names_in(made), repeat=2):
                distance = rng.choice([0, 0, 1, 2, 16])
                more = with_waits(made, made[3] + ((one, other, distance),))
                found = call(self, may_wait, made, one, other, distance)
                self.assertIs(found, not is_stuck(more[2], more[3]))
                if is_right(source, made):
                    counts[found] += 1
                    self.assertIs(is_right(source, more), found)
        self.assertGreater(min(counts.values()), 30, counts)
        for name in ("z", "", "A"):
            raises(self, f"NoName(name={name!r})", may_wait, MADE, name, "y", 0)
            raises(self, f"NoName(name={name!r})", may_wait, MADE, "a", name, 0)

    def pairs_of_right(self, seed, count):
        """Right MADES that are alike but for waits."""
        for rng, source, made in some(seed, count):
            if is_right(source, made):
                many = [with_waits(made, made[3] + random_waits(rng, names_in(made), 4, 1)) for _ in range(6)]
                right = [made, *(other for other in many if is_right(source, other))]
                yield rng, source, rng.choice(right), rng.choice(right)
                for one, other in itertools.combinations(names_in(made), 2):
                    turned = [with_waits(made, (*made[3], wait)) for wait in ((one, other, 0), (other, one, 0))]
                    if all(is_right(source, made) for made in turned):
                        yield rng, source, *turned

    def test_way_of_waits(self):
        counts = {"none": 0, "nothing": 0, "puts": 0, "drops": 0}
        for rng, source, one, other in self.pairs_of_right(204, 500):
            way = call(self, way_of_waits, source, one, other)
            both = with_waits(one, one[3] + other[3])
            if is_stuck(both[2], both[3]):
                counts["none"] += 1
                self.assertIsNone(way)
                continue
            puts = [("put wait", *wait) for wait in other[3] if wait not in one[3]]
            drops = [("drop wait", *wait) for wait in one[3] if wait not in other[3]]
            self.assertEqual(way, (*puts, *drops))
            counts["nothing" if way == () else "puts"] += puts != [] or way == ()
            counts["drops"] += drops != []
            self.assertIs(call(self, is_right_way, source, one, other, way), True)
            here = one
            for edit in way:
                here = edited(source, here, edit)
                self.assertIs(is_right(source, here), True)
            self.assertEqual(here, other)
        self.assertGreater(min(counts.values()), 2, counts)

    def is_right_way_by_hand(self, source, one, other, edits):
        here = one
        for edit in edits:
            here = edited_by_hand(source, here, edit)
            if isinstance(here, str) or faults(source, here):
                return False
        return here == other

    def test_is_right_way(self):
        counts = {True: 0, False: 0}
        for rng, source, one, other in self.pairs_of_right(205, 250):
            way = way_of_waits(source, one, other) or ()
            for _ in range(6):
                edits = rng.sample(way, len(way)) + [random_edit(rng, source, one) for _ in range(rng.choice([0, 0, 1]))]
                edits = tuple(edits[:-1] if edits and rng.random() < 0.2 else edits)
                expected = self.is_right_way_by_hand(source, one, other, edits)
                counts[expected] += 1
                self.assertIs(is_right_way(source, one, other, edits), expected)
        self.assertGreater(min(counts.values()), 30, counts)

    def test_bent_ways(self):
        tight = with_waits(MADE, (("a", "b", 0), ("b", "a", 1)))
        way = way_of_waits(SOURCE, MADE, tight)
        self.assertEqual(way, (("put wait", "b", "a", 1), ("drop wait", "b", "a", 2)))
        for thing in [*thing_variants(way), *ODD_THINGS, way[::-1], way[:1], way[1:], (*way, ("exchange", 7, 7)), (*way, None)]:
            right = isinstance(thing, tuple) and all(is_edit(part) for part in thing) and self.is_right_way_by_hand(SOURCE, MADE, tight, thing)
            self.assertIs(is_right_way(SOURCE, MADE, tight, thing), right, thing)
        for edits in [way, (*way, *way), (way[0], way[0], way[1]), (*way, ("put wait", "a", "b", 3), ("drop wait", "a", "b", 3))]:
            self.assertIs(call(self, is_right_way, SOURCE, MADE, tight, edits), True)
        # The first one is not asked to be right, what stands behind an EDIT is.
        wrong = with_home(MADE, "a", ("seat", 3))
        self.assertEqual([is_right_way(SOURCE, wrong, wrong, ()), is_right_way(SOURCE, MADE, MADE, ()), is_right_way(SOURCE, MADE, wrong, ())], [True, True, False])
        self.assertIs(is_right_way(SOURCE, MADE, wrong, (("home", "a", ("seat", 3)),)), False)
        self.assertIs(is_right_way(SOURCE, wrong, MADE, (("home", "a", ("cells", 2, 1, 1)),)), True)
        for thing in (None, (), 7, way):
            raises(self, "NotEven(array='x')", is_right_way, UNEVEN, MADE, MADE, thing)


class WatchTest(unittest.TestCase):

    def test_beside_a_list_of_edits(self):
        counts = {"do": 0, "refused": 0, "back": 0, "alone": 0, "not alone": 0}
        for rng, source, made in some(206, 120):
            watch, told, mades = Watch(source, made), [], [made]
            for _ in range(20):
                before, kind = watch.twin(), rng.random()
                if kind < 0.7:
                    edit = random_edit(rng, source, watch.made)
                    expected = edited_by_hand(source, mades[-1], edit)
                    found = outcome(watch.do, listed(edit) if rng.random() < 0.3 else edit)
                    self.assertEqual(found, expected if isinstance(expected, str) else "returns None")
                    counts["refused" if isinstance(expected, str) else "do"] += 1
                    if not isinstance(expected, str):
                        told.append(edit)
                        mades.append(expected)
                elif kind < 0.8:
                    self.assertEqual(outcome(watch.back), "returns None" if told else "raises NothingDone()")
                    counts["back"] += 1
                    told, mades = told[:-1], mades[:-1] or mades
                else:
                    number = rng.randint(-1, len(told))
                    found = outcome(watch.back_alone, number)
                    if not 0 <= number < len(told):
                        self.assertEqual(found, f"raises NoNumber(number={number})")
                        self.assertEqual(watch, before)
                        continue
                    others, here = told[:number] + told[number + 1:], mades[:number + 1]
                    for edit in told[number + 1:]:
                        here.append(here[-1] if isinstance(here[-1], str) else edited_by_hand(source, here[-1], edit))
                    refused = [part for part in here if isinstance(part, str)]
                    self.assertEqual(found, refused[0] if refused else "returns None")
                    counts["not alone" if refused else "alone"] += 1
                    if refused:
                        self.assertEqual(watch, before)
                    else:
                        told, mades = others, here
                self.assertEqual((watch.source, watch.made, watch.told, len(watch)), (source, mades[-1], tuple(told), len(told)))
                self.assertFalse(has_list((watch.source, watch.made, watch.told)))
                self.assertEqual((watch.right(), watch.fault()), (is_right(source, watch.made), first_fault(source, watch.made)))
            while told:
                watch.back()
                told.pop()
            self.assertEqual((watch.made, watch.told, len(watch)), (made, (), 0))
            self.assertEqual(watch, Watch(source, made))
        self.assertGreater(counts.pop("not alone"), 0)
        self.assertGreater(min(counts.values()), 15, counts)

    def test_properties_without_setters(self):
        watch = Watch(SOURCE, MADE)
        for name in ("source", "made", "told"):
            with self.assertRaises(AttributeError):
                setattr(watch, name, ())
        self.assertEqual((watch.source, watch.made, watch.told, len(watch), watch.right(), watch.fault()), (SOURCE, MADE, (), 0, True, None))

    def test_lists_and_names(self):
        source, made = listed(SOURCE), listed(MADE)
        kept = copy.deepcopy((source, made))
        watch = Watch(source=source, made=made)
        edit = ["home", "a", ["seat", 3]]
        self.assertIsNone(watch.do(edit=edit))
        self.assertIsNone(watch.do(["mask", "b", [[]]]))
        self.assertEqual((source, made, edit), (*kept, ["home", "a", ["seat", 3]]))
        source[0].clear()
        made.clear()
        edit[2].clear()
        self.assertEqual((watch.source, watch.told), (SOURCE, (("home", "a", ("seat", 3)), ("mask", "b", ((),)))))
        self.assertIsNone(watch.back_alone(number=1))
        self.assertEqual((watch.made, watch.fault()), (with_home(MADE, "a", ("seat", 3)), ("over", (), "b", 0, "a")))

    def test_twin_shares_nothing(self):
        watch = Watch(SOURCE, MADE)
        watch.do(EDITS[0])
        watch.do(EDITS[6])
        twin = watch.twin()
        self.assertEqual((twin == watch, twin.told, twin.made), (True, watch.told, watch.made))
        twin.back()
        self.assertEqual((len(twin), len(watch), twin == watch, twin != watch), (1, 2, False, True))
        watch.back_alone(0)
        twin.do(EDITS[1])
        twin.back_alone(0)
        self.assertEqual((watch.told, twin.told), ((EDITS[6],), (EDITS[1],)))
        twin.back()
        watch.back()
        self.assertEqual((watch, watch.made, twin.made), (twin, MADE, MADE))

    def test_equal(self):
        watch = Watch(SOURCE, MADE)
        self.assertTrue(watch == Watch(listed(SOURCE), listed(MADE)))
        self.assertFalse(watch != Watch(SOURCE, MADE))
        other = Watch(SOURCE, MADE)
        other.do(("put wait", "a", "b", 0))
        # The same MADE, but told unlike EDITS.
        self.assertEqual((other.made == watch.made, other == watch), (True, False))
        loose = with_waits(MADE, ())
        third = Watch(SOURCE, loose)
        for wait in MADE[3]:
            third.do(("put wait", *wait))
        self.assertEqual((third.made == watch.made, third == watch), (True, False))
        self.assertFalse(watch == Watch(source_from("a - x.1.0; b* - y.1.0 x.1.1"), MADE))
        for thing in (*ODD_THINGS, (SOURCE, MADE), MADE):
            self.assertIs(watch == thing, False)
            self.assertIs(watch != thing, True)

    def test_not_iterable(self):
        watch = Watch(SOURCE, MADE)
        watch.do(EDITS[0])
        for function in (iter, list, tuple, sorted, set, lambda thing: EDITS[0] in thing, lambda thing: [*thing], lambda thing: thing[0]):
            with self.assertRaises(TypeError):
                function(watch)

    def test_errors(self):
        for made in [with_home(MADE, "a", ("cells", 2, 1, 0)), with_home(MADE, "a", ("cells", 3, 1, 1)), (*MADE[:2], (("a",),), *MADE[3:]), (*MADE[:6], (("a", "b"),))]:
            self.assertIs(is_made(SOURCE, made), False)
            self.assertEqual(outcome(Watch, SOURCE, made), "raises NotMade()")
            self.assertEqual(outcome(Watch, listed(SOURCE), listed(made)), "raises NotMade()")
        watch = Watch(SOURCE, MADE)
        self.assertEqual(outcome(watch.back), "raises NothingDone()")
        for number in (0, -1, 1, 10 ** 30):
            self.assertEqual(outcome(watch.back_alone, number), f"raises NoNumber(number={number})")
        watch.do(("home", "b", ("cells", 1, 1, 0)))
        watch.do(("put pair", "a", "b"))
        # Without a buffer b cannot stand in the order.
        for number, found in ((-1, "raises NoNumber(number=-1)"), (2, "raises NoNumber(number=2)"), (0, "raises NotMade()"), (1, "returns None")):
            self.assertEqual(outcome(watch.back_alone, number), found)
        self.assertEqual(watch.told, (("home", "b", ("cells", 1, 1, 0)),))
        with self.assertRaises(NotMade) as caught:
            Watch(SOURCE, made_from("a | - | - | - | - | - | -"))
        self.assertIsInstance(caught.exception, MadeError)

    def test_a_hand_taken_back(self):
        watch = Watch(SOURCE, MADE)
        for edit in (("move", "b", 0, 1), ("exchange", 0, 0)):
            watch.do(edit)
        self.assertEqual(outcome(watch.back_alone, 0), "raises NoNumber(number=0)")
        self.assertEqual((watch.made[2], len(watch)), ((("b", "a"), ()), 2))

    def test_not_even(self):
        watch = Watch(UNEVEN, MADE)
        self.assertEqual((outcome(watch.right), outcome(watch.fault)), ("raises NotEven(array='x')", "raises NotEven(array='x')"))
        self.assertEqual((outcome(watch.do, EDITS[0]), len(watch)), ("returns None", 1))

    def test_forty_edits(self):
        source = source_from("; ".join(f"{name}* - {name}.1.1 {name}.1.0" for name in "abcdefgh"))
        made, rng = plain_made(source), dice(207)
        watch, mades = Watch(source, made), [made]
        while len(watch) < 40:
            edit = rng.choice([("move", rng.choice("abcdefgh"), 0, rng.randint(0, 7)), ("put wait", rng.choice("abcd"), rng.choice("efgh"), rng.randint(0, 9))])
            watch.do(edit)
            mades.append(watch.made)
        self.assertEqual(len(watch.told), 40)
        watch.back_alone(0)
        self.assertEqual(len(watch), 39)
        twin = Watch(source, made)
        for edit in watch.told:
            twin.do(edit)
        self.assertEqual(twin, watch)
        while len(watch):
            watch.back()
        self.assertEqual(watch.made, made)

    def test_a_right_watch_is_right_again(self):
        """Right MADES, changed and taken back in some order, are as right as they were."""
        rights = 0
        for rng, source, made in some(208, 80):
            watch = Watch(source, made)
            for _ in range(6):
                try:
                    watch.do(random_edit(rng, source, watch.made))
                except MadeError:
                    continue
            if is_right(source, made):
                rights += 1
                for edit in [undone_by(before, edit) for before, edit in self.steps(source, made, watch.told)][::-1]:
                    watch.do(edit)
                self.assertEqual((watch.made, watch.right()), (made, True))
        self.assertGreater(rights, 15)

    def steps(self, source, made, edits):
        for edit in edits:
            yield made, edit
            made = edited(source, made, edit)


class OrderTest(unittest.TestCase):

    def test_pairs(self):
        source = source_from("; ".join(f"{name}* - {name}.1.1 {name}.1.0" for name in "abc"))
        made = (*plain_made(source)[:6], random_order(dice(209), []))
        for edit, order in [
            (("put pair", "b", "a"), (("b", "a"),)), (("put pair", "a", "c"), (("a", "c"), ("b", "a"))), (("put pair", "b", "a"), (("a", "c"), ("b", "a"))),
            (("drop pair", "b", "a"), (("a", "c"),)), (("drop pair", "c", "a"), (("a", "c"),)),
        ]:
            made = call(self, edited, source, made, edit)
            self.assertEqual(made[6], order)
        raises(self, "NotMade()", edited, source, made, ("put pair", "c", "a"))


class ExamplesTest(unittest.TestCase):

    def test_examples(self):
        check_examples(self, EXAMPLES, names_for("edits"))


if __name__ == "__main__":
    unittest.main()
