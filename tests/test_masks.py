"""Masks [19], in their own words and beside many small MADES."""

import unittest

from builtahead.flows import all_conditions
from builtahead.hands import is_stuck
from builtahead.lastword import faults, is_right
from builtahead.mades import (
    is_made, made_from, mask_of, names_in, plain_made, with_home, with_mask, with_rows, with_waits,
)
from builtahead.masks import acting, greatest_masks, hurt_by, least_masks, off_masks, with_masks
from builtahead.needs import needed_names
from builtahead.sources import roots_of_step, source_from
from tests.tools import call, check_examples, dice, names_for, raises, random_source
from tests.worlds import HandWord, even_source, random_made, safe_made

EXAMPLES = """
    >>> u, w = ("u", (), ("x", 0, 0), ()), ("w", ("c", True), ("x", 0, 0), (("x", 0, 0),))
    >>> source, both = ((u, w, ("s", (), ("y", 0, 0), (("x", 0, 0),))), ("s",)), ((), ("c",))
    >>> steps, homes = (("s", (("c", ("u", 0), ("w", 0)),)), ("u", ()), ("w", (("u", 0),))), (("s", ("seat", 1)), ("u", ("seat", 0)), ("w", ("seat", 0)))
    >>> masks = (("s", both), ("u", both), ("w", (("c",),)))
    >>> made = (steps, (), (("u", "w", "s"),), (), masks, homes, ())
    >>> least_masks(source, made) == masks, greatest_masks(source, made) == masks, off_masks(source, made), acting(source, "w")
    (True, True, [], (('c',),))
    >>> hurt_by(source, made, "w", ()), hurt_by(source, made, "w", ("c",)), off_masks(source, with_masks(made, (masks[0], ("u", ()), ("w", both))))
    ((('s', 0),), (), [('u', (), False), ('u', ('c',), False), ('w', (), True)])
"""

SOURCE = source_from("a - x.1.0; b* +c y.1.0 x.1.0; d -e z.1.0")
STUCK = made_from("a; b a.0; d | - | a; b; d | a b 0; b a 0 | a -; b c; d - | a 0; b 1; d 2 | -")


def crowded_made(rng, source):
    """A MADE of few hands and seats, so that much is written over what others read."""
    made = safe_made(rng, source)
    for name in names_in(made):
        if rng.random() < 0.6:
            made = (*made[:6], tuple(pair for pair in made[6] if name not in pair))
            made = with_home(made, name, ("seat", rng.randint(0, 1)))
    if rng.random() < 0.6:
        made = with_rows(made, (tuple(statement[0] for statement in source[0]),))
    return made


def guarded_source(rng):
    """An even SOURCE with guards, that tells few of its STATEMENTS."""
    while True:
        source = even_source(rng, 4, "xy", (0, 0, 1), 1)
        if len(source[0]) > 2 >= 2 * len(source[1]) and sum(guard != () for _, guard, _, _ in source[0]) > 1:
            return source


def some(seed, count):
    """MADES that are not stuck, some of them with other masks than needed."""
    rng = dice(seed)
    while count:
        source = guarded_source(rng)
        made = rng.choice([random_made, safe_made, crowded_made, crowded_made])(rng, source)
        every = all_conditions(source)
        for name in names_in(made):
            if rng.random() < 0.15:
                made = with_mask(made, name, tuple(part for part in every if rng.random() < 0.5))
        if not is_stuck(made[2], made[3]) and len(every) > 1:
            count -= 1
            yield rng, source, made


def least_by_hand(source, made):
    """The LEAST masks, as [19] says them."""
    guards = {name: guard for name, guard, _, _ in source[0]}
    found = []
    for name in names_in(made):
        mask = []
        for conditions in all_conditions(source):
            if name in source[1]:
                does = guards[name] == () or (guards[name][0] in conditions) is guards[name][1]
            else:
                does = name in needed_names(source, made, conditions)
            mask += [conditions] if does else []
        found.append((name, tuple(mask)))
    return tuple(found)


def hurt_by_hand(source, made, name, conditions):
    """The kept reads that the name spoils, as if it were done: those that over then tells it for."""
    other = with_mask(made, name, tuple(all_conditions(source)))
    hand = HandWord(source, other, conditions)
    found = set()
    for reader, number, writer, back in hand.kept:
        alone = HandWord(source, with_mask(other, writer, tuple(all_conditions(source))), conditions)
        if name != writer and ("over", conditions, reader, number, name) in alone.found:
            # Over tells no writer, so one read of a move with several wants may be told for another writer of it.
            alone.found.clear()
            alone.judge(reader, number, writer, back)
            if ("over", conditions, reader, number, name) in alone.found:
                found.add((reader, number))
    return tuple(sorted(found))


def greatest_by_hand(source, made):
    """The GREATEST masks, as [19] says them."""
    found = []
    for name, least in least_by_hand(source, made):
        free = [conditions for conditions in all_conditions(source) if hurt_by_hand(source, made, name, conditions) == ()]
        found.append((name, least if name in source[1] else tuple(sorted({*least, *free}))))
    return tuple(found)


class ActingTest(unittest.TestCase):

    def test_beside_the_guards_turn_by_turn(self):
        rng, counts = dice(140), {True: 0, False: 0}
        for _ in range(60):
            source = random_source(rng)
            for name, _, _, _ in source[0]:
                found = call(self, acting, source, name)
                self.assertEqual(list(found), sorted(set(found)))
                for conditions in all_conditions(source):
                    does = [roots_of_step(source, conditions, name, turn) is not None for turn in range(3)]
                    counts[does[0]] += 1
                    self.assertEqual(does, [conditions in found] * 3)
        self.assertGreater(min(counts.values()), 50)

    def test_no_name_alone(self):
        for name in ("m", "", "A", "aa"):
            raises(self, f"NoName(name={name!r})", acting, SOURCE, name)
        self.assertEqual([len(call(self, acting, SOURCE, name)) for name in "abd"], [4, 2, 2])
        self.assertEqual((acting(SOURCE, "b"), acting(SOURCE, "d")), ((("c",), ("c", "e")), ((), ("c",))))
        # Also of a SOURCE that is not even.
        self.assertEqual(acting(source_from("a -c x.1.0 x.2.0"), "a"), ((),))


class MasksTest(unittest.TestCase):

    def test_in_the_words(self):
        counts = {"least": 0, "between": 0, "every": 0, "hurt": 0, "moves": 0, "off": 0, "must": 0, "must not": 0}
        for rng, source, made in some(141, 130):
            every = all_conditions(source)
            least, greatest = call(self, least_masks, source, made), call(self, greatest_masks, source, made)
            self.assertEqual(least, least_by_hand(source, made))
            self.assertEqual(greatest, greatest_by_hand(source, made))
            for (name, low), (_, high) in zip(least, greatest):
                self.assertLessEqual(set(low), set(high))
                counts["least" if low == high else "every" if len(high) == len(every) else "between"] += 1
                counts["moves"] += name in [move[0] for move in made[1]]
            off = []
            for name in names_in(made):
                mask = mask_of(made, name)
                for conditions in every:
                    hurt = call(self, hurt_by, source, made, name, conditions)
                    self.assertEqual(hurt, hurt_by_hand(source, made, name, conditions))
                    counts["hurt"] += hurt != ()
                    if conditions in dict(least)[name] and conditions not in mask:
                        off.append((name, conditions, False))
                        counts["must"] += 1
                    if conditions not in dict(greatest)[name] and conditions in mask:
                        off.append((name, conditions, True))
                        counts["must not"] += 1
            counts["off"] += off != []
            self.assertEqual(call(self, off_masks, source, made), sorted(off))
        self.assertGreater(min(counts.values()), 15, counts)

    def test_hurt_is_told_whether_the_name_is_done_or_not(self):
        for rng, source, made in some(142, 30):
            name = rng.choice(names_in(made))
            for mask in ((), tuple(all_conditions(source))):
                for conditions in all_conditions(source):
                    self.assertEqual(hurt_by(source, with_mask(made, name, mask), name, conditions), hurt_by(source, made, name, conditions))

    def test_one_more_or_less(self):
        tried = {"less": 0, "more": 0, "told": 0}
        for rng, source, made in some(143, 90):
            least = least_masks(source, made)
            greatest = greatest_masks(source, made)
            for masks in (least, greatest):
                self.assertEqual(call(self, off_masks, source, call(self, with_masks, made, masks)), [])
            for (name, low), (_, high) in zip(least, greatest):
                for conditions in low:
                    mask = tuple(part for part in low if part != conditions)
                    tried["less"] += 1
                    self.assertEqual(off_masks(source, with_mask(with_masks(made, least), name, mask)), [(name, conditions, False)])
                for conditions in all_conditions(source):
                    if conditions not in high:
                        tried["told" if name in source[1] else "more"] += 1
                        mask = tuple(sorted([*high, conditions]))
                        self.assertEqual(off_masks(source, with_mask(with_masks(made, greatest), name, mask)), [(name, conditions, True)])
        self.assertGreater(min(tried.values()), 20, tried)

    def test_a_right_made_has_masks_between(self):
        rights = wrongs = 0
        for rng, source, made in some(144, 400):
            if is_right(source, made):
                rights += 1
                self.assertEqual(off_masks(source, made), [], (source, made))
            elif off_masks(source, made):
                wrongs += 1
        self.assertGreater(min(rights, wrongs), 60, (rights, wrongs))

    def test_between_a_made_is_right_as_with_the_least_ones(self):
        counts = {True: 0, False: 0}
        for rng, source, made in some(145, 300):
            least, greatest = least_masks(source, made), greatest_masks(source, made)
            right = is_right(source, with_masks(made, least))
            if least == greatest:
                continue
            for _ in range(3):
                masks = tuple(
                    (name, tuple(part for part in high if part in low or rng.random() < 0.5))
                    for (name, low), (_, high) in zip(least, greatest)
                )
                counts[right] += 1
                self.assertIs(is_right(source, with_masks(made, masks)), right, (source, made, masks))
            self.assertIs(is_right(source, with_masks(made, greatest)), right)
        self.assertGreater(min(counts.values()), 60, counts)

    def test_each_that_is_off_is_a_fault(self):
        seen = {True: 0, False: 0}
        for rng, source, made in some(146, 200):
            if not is_right(source, with_masks(made, least_masks(source, made))):
                continue
            for name, conditions, done in off_masks(source, made):
                seen[done] += 1
                self.assertIn(conditions, [fault[1] for fault in faults(source, made)])
        self.assertGreater(min(seen.values()), 10, seen)

    def test_with_masks_raises_nothing(self):
        masks = (("a", ()), ("b", ((), ("zz",))), ("d", (("c",),)))
        made = call(self, with_masks, STUCK, masks)
        self.assertEqual((made[4], made[:4], made[5:]), (masks, STUCK[:4], STUCK[5:]))
        self.assertIs(is_made(SOURCE, made), False)
        self.assertEqual(with_masks(plain_made(SOURCE), plain_made(SOURCE)[4]), plain_made(SOURCE))

    def test_moves(self):
        source = source_from("a - x.1.0; b* +c y.1.0 x.1.0")
        made = made_from("a; b m.0 | m x.1.0 a.0 | a m b | - | a -, c; b c; m c | a 1 1 0; b 0; m 1 1 0 | a m")
        self.assertEqual(least_masks(source, made), (("a", (("c",),)), ("b", (("c",),)), ("m", (("c",),))))
        self.assertEqual(greatest_masks(source, made), (("a", ((), ("c",))), ("b", (("c",),)), ("m", ((), ("c",)))))
        self.assertEqual(off_masks(source, with_mask(made, "m", ())), [("m", ("c",), False)])
        loose = (*made[:6], ())
        self.assertEqual((hurt_by(source, loose, "m", ("c",)), hurt_by(source, loose, "a", ("c",)), hurt_by(source, loose, "a", ())), ((), (), ()))
        late = (*made[:2], (("a", "m"), ("b",)), (("m", "b", 0),), *made[4:6], ())
        self.assertEqual((hurt_by(source, late, "a", ("c",)), hurt_by(source, late, "a", ())), ((("b", 0),), ()))


class ErrorsTest(unittest.TestCase):

    def test_no_name_ahead_of_stuck(self):
        loose = with_waits(STUCK, ())
        for made in (STUCK, loose):
            for name in ("z", "", "A", "ab"):
                raises(self, f"NoName(name={name!r})", hurt_by, SOURCE, made, name, ())
        raises(self, "Stuck()", hurt_by, SOURCE, STUCK, "a", ("c",))
        raises(self, "Stuck()", greatest_masks, SOURCE, STUCK)
        raises(self, "Stuck()", off_masks, SOURCE, STUCK)
        self.assertEqual(call(self, least_masks, SOURCE, STUCK), call(self, least_masks, SOURCE, loose))
        self.assertEqual(call(self, with_masks, STUCK, loose[4]), STUCK)
        self.assertEqual(call(self, hurt_by, SOURCE, loose, "a", ("c",)), ())
        # A name of the SOURCE that the MADE has not is none of its names.
        raises(self, "NoName(name='d')", hurt_by, SOURCE, made_from("a; b a.0 | - | a b | - | a -; b c | a 0; b 1 | -"), "d", ())


class ExamplesTest(unittest.TestCase):

    def test_examples(self):
        check_examples(self, EXAMPLES, names_for("masks"))


if __name__ == "__main__":
    unittest.main()
