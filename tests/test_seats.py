"""Seats [18], in their own words and beside all LAYOUTS of small MADES."""

import itertools
import unittest

from builtahead.flows import all_conditions, flow
from builtahead.hands import is_stuck, least_gap
from builtahead.lastword import is_right
from builtahead.mades import is_made, made_from, names_in, plain_made, with_home, with_wait, with_waits, without_wait
from builtahead.needs import needed_names
from builtahead.seats import (
    apart_most, can_sit, fewest_seats, is_layout, least_layout, may_share, seated, sharing_pairs, why_apart,
)
from builtahead.sources import source_from
from tests.tools import (
    ODD_THINGS, all_subsets, call, check_examples, check_things, dice, names_for, raises, thing_variants,
)
from tests.worlds import even_source, led_by, near_made, random_made

EXAMPLES = """
    >>> source = source_from("load - p.0.0; mul - q.0.0 p.0.0; add* - r.0.0 q.0.0 r.0.0")
    >>> one = made_from("add mul.0, add.1; load; mul load.0 | - | load mul add | - | add -; load -; mul - | add 0; load 1; mul 2 | -")
    >>> two = made_from("add mul.0, add.1; load; mul load.0 | - | load; mul add | load mul 0; mul load 1 | add -; load -; mul - | add 0; load 1; mul 2 | -")
    >>> sharing_pairs(source, one), why_apart(source, one, "add", "mul"), why_apart(source, one, "load", "mul"), fewest_seats(source, one), least_layout(source, one), apart_most(source, one)
    ((('load', 'mul'),), ((), 'add', 'add', 'mul'), None, 2, (('add',), ('load', 'mul')), ('add', 'load'))
    >>> may_share(source, two, "load", "mul"), why_apart(source, two, "load", "mul"), can_sit(source, without_wait(two, "mul", "load", 1), "load"), seated(source, one)[5], is_layout(source, one, (("add", "mul"), ("load",)))
    (False, ((), 'add', 'mul', 'load'), False, (('add', ('seat', 0)), ('load', ('seat', 1)), ('mul', ('seat', 1))), False)
    >>> may_share(source, one, "add", "div")
    raises NoName(name='div')
"""

STUCK = made_from("a; b a.0 | - | a; b | a b 0; b a 0 | a -; b - | a 0; b 1 | -")


def some(seed, count, most=4):
    """MADES that are not stuck."""
    rng = dice(seed)
    while count:
        source = even_source(rng, most, "xyz", (0, 1, 1), 2)
        made = near_made(rng, source) if rng.random() < 0.6 else random_made(rng, source)
        if not is_stuck(made[2], made[3]):
            count -= 1
            yield rng, source, made


def looks_by_hand(source, made):
    """All looks, as [18] says them."""
    trees = {**dict(made[0]), **{name: (tree,) for name, _, tree in made[1]}}
    return {
        (conditions, name, *led_by(tree, conditions))
        for conditions in all_conditions(source) for name in needed_names(source, made, conditions) for tree in trees[name]
        if led_by(tree, conditions) and conditions in dict(made[4])[led_by(tree, conditions)[0]]
    }


def spoils(made, look, name):
    """Whether the name spoils the look, as [18] says it."""
    conditions, reader, kept, back = look
    if conditions not in dict(made[4])[name]:
        return False
    there = 0 if reader == name else least_gap(made, reader, name)
    on = 0 if name == kept else least_gap(made, name, kept)
    return there is None or on is None or there + on + back > 1


def sitting_by_hand(source, made):
    looks = looks_by_hand(source, made)
    return [name for name, _ in made[0] if not any(spoils(made, look, name) for look in looks if look[2] == name)]


def share_by_hand(source, made, one, other):
    looks = looks_by_hand(source, made)
    return not any(spoils(made, look, {one: other, other: one}[look[2]]) for look in looks if look[2] in (one, other))


def layouts_by_hand(source, made):
    """All LAYOUTS: all ways to put the names that can sit into sets."""
    able = sitting_by_hand(source, made)
    shares = {pair for pair in itertools.permutations(able, 2) if share_by_hand(source, made, *pair)}

    def put(names):
        if not names:
            return [()]
        found = []
        for layout in put(names[1:]):
            found += [tuple(sorted((*layout, (names[0],))))]
            found += [tuple(sorted((*(part for part in layout if part != into), tuple(sorted((*into, names[0])))))) for into in layout]
        return found
    return [
        layout for layout in put(able)
        if all(pair in shares for part in layout for pair in itertools.permutations(part, 2))
    ]


class SharingTest(unittest.TestCase):

    def test_in_the_words(self):
        counts = {"sit": 0, "stand": 0, "share": 0, "apart": 0, "undone": 0}
        for rng, source, made in some(130, 200):
            looks, able, names = looks_by_hand(source, made), sitting_by_hand(source, made), names_in(made)
            for name in names:
                counts["sit" if name in able else "stand"] += 1
                self.assertIs(call(self, can_sit, source, made, name), name in able)
            pairs = []
            for one, other in itertools.permutations(names, 2):
                share = one in able and other in able and share_by_hand(source, made, one, other)
                counts["share" if share else "apart"] += 1
                pairs += [(one, other)] if share and one < other else []
                self.assertIs(call(self, may_share, source, made, one, other), share)
                apart = [(*look[:3], writer) for look in looks if look[2] in (one, other) for writer in (one, other) if spoils(made, look, writer)]
                self.assertEqual(call(self, why_apart, source, made, one, other), min(apart, default=None))
                counts["undone"] += any(look[0] not in dict(made[4])[one] for look in looks if look[2] == other)
            self.assertEqual(call(self, sharing_pairs, source, made), tuple(pairs))
        self.assertGreater(min(counts.values()), 50, counts)

    def test_homes_and_order_do_not_matter(self):
        for rng, source, made in some(131, 40):
            other = (*made[:5], tuple((name, ("seat", 0)) for name, _ in made[5]), ())
            for function in (sharing_pairs, fewest_seats, least_layout, apart_most):
                self.assertEqual(function(source, made), function(source, other))

    def test_a_move_cannot_sit(self):
        source = source_from("a - x.1.0; b* - y.1.0 x.1.0")
        made = made_from("a; b m.0 | m x.1.0 a.0 | a m b | - | a -; b -; m - | a 0; b 1; m 1 1 0 | -")
        self.assertEqual([can_sit(source, made, name) for name in "abm"], [True, True, False])
        self.assertEqual((may_share(source, made, "a", "m"), why_apart(source, made, "a", "m"), why_apart(source, made, "b", "m")), (False, None, None))
        self.assertEqual((sharing_pairs(source, made), least_layout(source, made)), ((("a", "b"),), (("a", "b"),)))
        self.assertIs(is_layout(source, made, (("a", "b"), ("m",))), False)


class LayoutTest(unittest.TestCase):

    def test_beside_all_layouts(self):
        sizes = {}
        for rng, source, made in some(132, 150):
            every = layouts_by_hand(source, made)
            fewest = min(len(layout) for layout in every)
            least = min(layout for layout in every if len(layout) == fewest)
            self.assertEqual(call(self, fewest_seats, source, made), fewest)
            self.assertEqual(call(self, least_layout, source, made), least)
            sizes[fewest] = sizes.get(fewest, 0) + 1
            for layout in rng.sample(every, min(len(every), 6)):
                self.assertIs(call(self, is_layout, source, made, layout), True)
                for thing in thing_variants(layout):
                    # Compared as they are written, as True and a number, a list and a tuple are not the same.
                    self.assertIs(is_layout(source, made, thing), repr(thing) in [repr(part) for part in every], thing)
                if len(layout) > 1:
                    self.assertIs(is_layout(source, made, layout[::-1]), False)
                    joined = (tuple(sorted(layout[0] + layout[1])), *layout[2:])
                    self.assertIs(is_layout(source, made, joined), joined in every)
            for thing in ODD_THINGS:
                self.assertIs(is_layout(source, made, thing), repr(thing) in [repr(part) for part in every], thing)
            able = sitting_by_hand(source, made)
            apart = [
                part for part in all_subsets(able)
                if not any(share_by_hand(source, made, one, other) for one, other in itertools.combinations(part, 2))
            ]
            most = max(len(part) for part in apart)
            self.assertEqual(call(self, apart_most, source, made), min(part for part in apart if len(part) == most))
        self.assertEqual(sorted(sizes)[:4], [0, 1, 2, 3], sizes)

    def test_eight_names(self):
        source = source_from("; ".join(f"{name} - {name}.1.0" for name in "abcdefg") + "; h* - h.1.0 g.1.0")
        made = plain_made(source)
        self.assertEqual((fewest_seats(source, made), least_layout(source, made)), (1, (tuple("abcdefgh"),)))
        wide = source_from("; ".join(f"{name}* - {name}.1.1 {name}.1.0" for name in "abcdefgh"))
        made = plain_made(wide)
        self.assertEqual(least_layout(wide, made), tuple((name,) for name in "abcdefgh"))
        self.assertEqual(apart_most(wide, made), tuple("abcdefgh"))


class SeatedTest(unittest.TestCase):

    def seated_by_hand(self, source, made):
        seats = {name: ("seat", at) for at, part in enumerate(least_layout(source, made)) for name in part}
        order = set(made[6])
        for name in seats:
            through = {(low, high) for low, middle in order for other, high in order if middle == other == name}
            order = {pair for pair in order | through if name not in pair}
        return (*made[:5], tuple((name, seats.get(name, home)) for name, home in made[5]), tuple(sorted(order)))

    def has_right_names(self, source, made):
        """Whether each needed read has, where it wants a STATEMENT, a leaf with just this NAME."""
        trees = dict(flow(source))
        for conditions in all_conditions(source):
            for name in needed_names(source, made, conditions):
                if name not in trees:
                    return False
                for wanted, tree in zip(trees[name], dict(made[0])[name]):
                    if led_by(wanted, conditions) and led_by(wanted, conditions)[:1] != led_by(tree, conditions)[:1]:
                        return False
        return True

    def test_a_right_made_stays_right(self):
        counts = {"changed": 0, "apart": 0, "order": 0, "through": 0}
        for rng, source, made in some(133, 400):
            other = call(self, seated, source, made)
            self.assertEqual(other, self.seated_by_hand(source, made))
            self.assertIs(is_made(source, other), True)
            counts["order"] += other[6] != () and other[6] != made[6]
            counts["through"] += any(pair not in made[6] for pair in other[6])
            if is_right(source, made) and self.has_right_names(source, made):
                counts["changed"] += other != made
                self.assertIs(is_right(source, other), True, (source, made))
            for one, two in itertools.combinations([name for name, _ in made[0]], 2):
                if not may_share(source, made, one, two):
                    counts["apart"] += 1
                    order = tuple(pair for pair in made[6] if one not in pair and two not in pair)
                    both = with_home(with_home((*made[:6], order), one, ("seat", 6)), two, ("seat", 6))
                    self.assertIs(is_right(source, both), False)
        self.assertGreater(min(counts["changed"], counts["apart"]), 40, counts)

    def test_pairs_are_put_together(self):
        source = source_from("a* - x.1.2 x.1.0; b* - y.1.0 x.1.1; d* - z.1.2 z.1.0")
        made = made_from("a a.2; b a.1; d d.2 | - | a b d | - | a -; b -; d - | a 2 1 1; b 1 1 0; d 2 1 1 | a b; b d")
        self.assertEqual(sharing_pairs(source, made), ())
        self.assertEqual(seated(source, made)[5:], ((("a", ("cells", 2, 1, 1)), ("b", ("seat", 0)), ("d", ("cells", 2, 1, 1))), (("a", "d"),)))


class ErrorsTest(unittest.TestCase):

    def test_no_name_in_the_order_shown_then_stuck(self):
        source = source_from("a - x.1.0; b* - y.1.0 x.1.0")
        loose = with_waits(STUCK, ())
        for made in (STUCK, loose):
            for name in ("z", "", "A"):
                raises(self, f"NoName(name={name!r})", can_sit, source, made, name)
                for function in (may_share, why_apart):
                    raises(self, f"NoName(name={name!r})", function, source, made, name, "a")
                    raises(self, f"NoName(name={name!r})", function, source, made, "b", name)
                    raises(self, f"NoName(name={name!r})", function, source, made, name, "zz")
        raises(self, "Stuck()", can_sit, source, STUCK, "a")
        raises(self, "Stuck()", may_share, source, STUCK, "a", "b")
        raises(self, "Stuck()", why_apart, source, STUCK, "b", "a")
        raises(self, "Stuck()", is_layout, source, STUCK, None)
        for function in (sharing_pairs, fewest_seats, least_layout, apart_most, seated):
            raises(self, "Stuck()", function, source, STUCK)
            call(self, function, source, loose)

    def test_odd_things(self):
        source = source_from("a - x.1.0; b* - y.1.0 x.1.0")
        made = with_wait(without_wait(STUCK, "b", "a", 0), "b", "a", 1)
        check_things(self, is_layout, (source, made), lambda thing: repr(thing) == "(('a', 'b'),)")
        self.assertIs(is_layout(source, made, (("a", "b"),)), True)
        self.assertIs(is_layout(source, made, (("a",), ("b",))), True)
        for thing in [(("b",), ("a",)), (("a", "a"), ("b",)), (("a",), ("a", "b")), (("b", "a"),), (("a",), (), ("b",)), (("a",), ("b",), ("z",))]:
            self.assertIs(is_layout(source, made, thing), False, thing)


class ExamplesTest(unittest.TestCase):

    def test_examples(self):
        check_examples(self, EXAMPLES, names_for("seats"))


if __name__ == "__main__":
    unittest.main()
