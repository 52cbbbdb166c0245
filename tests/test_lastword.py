"""The last word [16], beside all WORLDS of few turns and beside its words one by one."""

import itertools
import unittest

from builtahead.flows import all_conditions
from builtahead.hands import is_stuck, stuck_ring
from builtahead.lastword import faults, first_fault, is_right, is_why_right, kept_reads, why_right
from builtahead.mades import (
    is_made, made_from, names_in, plain_made, with_home, with_mask, with_rows, with_wait, without_wait,
)
from builtahead.meets import is_even, uneven_arrays
from builtahead.parting import fault_world
from builtahead.sources import source_from, source_told
from tests.tools import ODD_THINGS, call, check_examples, dice, names_for, raises, random_source, thing_variants
from tests.worlds import HandWord, all_told, buffer, even_source, random_made, safe_made, some_widths, told_by_hand

EXAMPLES = """
    >>> source = ((("a", (), ("x", 1, 0), ()), ("b", (), ("y", 1, 0), (("x", 1, 0),))), ("b",))
    >>> made = made_from("a; b a.0 | - | a; b | a b 0; b a 2 | a -; b - | a 2 1 1; b 0 | -")
    >>> is_right(source, made), kept_reads(source, made, ()), why_right(source, made)
    (True, (('b', 0, 'a', 0),), (((), 'b', 0, ('a', 'b'), (('a', ('b', 'a'), ()),)),))
    >>> faults(source, with_home(made, "a", ("seat", 3))), faults(source, without_wait(made, "a", "b", 0)), faults(source, with_wait(made, "b", "a", 0)), faults(source, with_mask(made, "b", ()))
    ([('over', (), 'b', 0, 'a')], [('late', (), 'b', 0, 'a')], [('stuck', (), 'a', 0, ''), ('stuck', (), 'b', 0, '')], [('told', (), 'b', 0, '')])
"""

SOURCE = source_from("a - x.1.0; b* - y.1.0 x.1.0")
MADE = made_from("a; b a.0 | - | a; b | a b 0; b a 2 | a -; b - | a 2 1 1; b 0 | -")


def some(seed, count, most=3):
    rng = dice(seed)
    for _ in range(count):
        source = even_source(rng, most)
        yield rng, source, random_made(rng, source)


class WordsTest(unittest.TestCase):

    def test_each_word_alone(self):
        late = without_wait(MADE, "a", "b", 0)
        for made, expected in [
            (MADE, []),
            (with_wait(MADE, "b", "a", 0), [("stuck", (), "a", 0, ""), ("stuck", (), "b", 0, "")]),
            (with_mask(MADE, "b", ()), [("told", (), "b", 0, "")]),
            (with_mask(MADE, "a", ()), [("done", (), "b", 0, "a")]),
            (late, [("late", (), "b", 0, "a")]),
            (with_home(MADE, "a", ("seat", 3)), [("over", (), "b", 0, "a")]),
            (with_home(MADE, "a", ("seat", 0)), [("over", (), "b", 0, "a"), ("over", (), "b", 0, "b")]),
            (with_home(MADE, "a", buffer(1)), [("over", (), "b", 0, "a")]),
            (with_home(MADE, "b", buffer(1)), [("over", (), "b", 0, "b")]),
            ((*with_home(MADE, "b", buffer(1))[:6], (("b", "a"),)), []),
            ((*with_home(MADE, "b", buffer(1))[:6], (("a", "b"),)), []),
            (without_wait(MADE, "b", "a", 2), [("over", (), "b", 0, "a")]),
            (with_wait(MADE, "b", "a", 1), []),
            (with_home(with_wait(MADE, "b", "a", 1), "a", ("seat", 0)), []),
            (made_from("a; b a.1 | - | a; b | a b 0; b a 2 | a -; b - | a 2 1 1; b 0 | -"), [("leaf", (), "b", 0, "")]),
            (made_from("a; b - | - | a; b | a b 0; b a 2 | a -; b - | a 2 1 1; b 0 | -"), [("leaf", (), "b", 0, "")]),
            (made_from("a; b b.0 | - | a; b | a b 0; b a 2 | a -; b - | a 2 1 1; b 0 | -"), [("leaf", (), "b", 0, "")]),
            (made_from("b - | - | b | - | b - | b 0 | -"), [("leaf", (), "b", 0, "")]),
            (made_from("a | - | a | - | a - | a 0 | -"), [("told", (), "b", 0, "")]),
        ]:
            self.assertIs(is_made(SOURCE, made), True)
            self.assertEqual(call(self, faults, SOURCE, made), expected, made)
            self.assertEqual(call(self, first_fault, SOURCE, made), expected[0] if expected else None)
            self.assertIs(call(self, is_right, SOURCE, made), expected == [])
        self.assertEqual(faults(SOURCE, with_mask(late, "b", ())), [("late", (), "b", 0, "a"), ("told", (), "b", 0, "")])
        self.assertEqual(faults(SOURCE, with_mask(with_mask(MADE, "b", ()), "a", ())), [("done", (), "b", 0, "a"), ("told", (), "b", 0, "")])

    def test_a_seat_is_read_whatever_name_the_leaf_has(self):
        source = source_from("a - x.1.0; b* - y.1.0 x.1.0; d - z.1.0")
        made = made_from("a; b d.0; d | - | d a b | - | a -; b -; d - | a 4; b 0; d 4 | -")
        self.assertEqual((faults(source, made), kept_reads(source, made, ())), ([], (("b", 0, "a", 0),)))
        self.assertEqual(faults(source, with_home(made, "d", ("seat", 5))), [("leaf", (), "b", 0, "")])
        self.assertEqual(faults(source, with_home(made, "d", buffer(1))), [("leaf", (), "b", 0, "")])
        # Two buffers are never the same, however alike they are.
        boxed = with_home(with_home(made, "a", buffer(1)), "d", buffer(1))
        self.assertEqual(faults(source, boxed), [("leaf", (), "b", 0, "")])
        self.assertEqual(faults(source, made_from("b d.0; d | - | d b | - | b -; d - | b 0; d 4 | -")), [("leaf", (), "b", 0, "")])
        self.assertEqual(faults(source, with_rows(made, (("a", "d", "b"),))), [("over", (), "b", 0, "d")])
        # Nothing is wrong as long as d is not done.
        self.assertEqual(faults(source, with_mask(with_rows(made, (("a", "d", "b"),)), "d", ())), [])

    def test_moves(self):
        source = source_from("a - x.1.2; b* - y.1.0 x.1.0")
        good = made_from("a; b m.1 | m x.1.1 a.1 | a m b | - | a -; b -; m - | a 2 1 1; b 0; m 2 1 1 | a m")
        self.assertEqual((faults(source, good), kept_reads(source, good, ())), ([], (("b", 0, "m", 1), ("m", 0, "a", 1))))
        for text, expected in [
            ("m x.1.0 a.1", [("leaf", (), "m", 0, "")]), ("m y.1.1 a.1", [("leaf", (), "m", 0, "")]),
            # Only the first turn tells a letter, so the step of the PLACE is of no matter.
            ("m x.7.1 a.1", []), ("m x.1.1 a.0", [("leaf", (), "m", 0, "")]), ("m x.1.1 a.2", [("leaf", (), "m", 0, "")]),
            ("m x.1.1 -", [("leaf", (), "m", 0, "")]), ("m x.1.1 b.1", [("leaf", (), "m", 0, "")]),
        ]:
            made = made_from(f"a; b m.1 | {text} | a m b | - | a -; b -; m - | a 2 1 1; b 0; m 2 1 1 | a m")
            self.assertEqual(call(self, faults, source, made), expected, text)
            self.assertEqual(("m", 0, "a", 1) in kept_reads(source, made, ()), expected == [])
        far = made_from("a; b m.3 | m x.1.1 a.0 | a m b | - | a -; b -; m - | a 2 1 1; b 0; m 4 1 2 | a m")
        self.assertEqual((faults(source, far), kept_reads(source, far, ())), ([("leaf", (), "b", 0, "")], ()))
        self.assertEqual(faults(source, with_mask(good, "m", ())), [("done", (), "b", 0, "m")])
        self.assertEqual(faults(source, with_home(good, "m", buffer(1))), [("over", (), "b", 0, "m")])
        self.assertEqual(faults(source, (*good[:6], ())), [("over", (), "b", 0, "a"), ("over", (), "m", 0, "m")])

    def test_first_letters_through_moves(self):
        source = source_from("b* - y.1.0 x.2.1")
        for text, read, expected in [
            ("m x.2.1 -", "m.0", []), ("m x.2.3 -", "m.1", []), ("m x.2.5 -", "m.2", []), ("m x.2.1 -", "m.1", ["m"]), ("m x.1.1 -", "m.0", ["m"]),
            ("m x.2.3 n.0; n x.2.3 -", "m.1", []), ("m x.2.3 n.1; n x.2.5 -", "m.1", []), ("m x.9.3 n.1; n x.2.5 -", "m.1", []),
            ("m x.9.3 n.2; n x.2.7 -", "m.1", ["m"]), ("m x.2.3 n.1; n x.2.3 -", "m.1", ["n"]), ("m x.9.9 n.0; n x.2.1 -", "m.0", []),
            ("m x.2.1 b.0", "m.0", ["m"]), ("m x.2.1 b.3", "m.0", ["m"]), ("m x.2.1 -", "b.1", ["b"]),
        ]:
            names = "b m n".split()[:2 + ("; n" in text)]
            made = made_from(
                f"b {read} | {text} | {' '.join(names[::-1])} | - | {'; '.join(name + ' -' for name in names)} | b 0; m 4 1 2"
                + ("; n 4 1 2 | m n" if "n" in names else " | -")
            )
            self.assertEqual(faults(source, made), [("leaf", (), name, 0, "") for name in expected], (text, read))

    def test_beside_the_words(self):
        words = {}
        for rng, source, made in some(110, 500):
            if rng.random() < 0.3:
                made = safe_made(rng, source)
            every = all_conditions(source)
            found = set()
            for conditions in every:
                hand = HandWord(source, made, conditions)
                found |= hand.found
                self.assertEqual(call(self, kept_reads, source, made, conditions), tuple(sorted(hand.kept)))
            ring = stuck_ring(made[2], made[3])
            if ring is not None:
                found = {("stuck", (), name, 0, "") for name in ring}
            self.assertEqual(call(self, faults, source, made), sorted(found))
            self.assertEqual(first_fault(source, made), min(found, default=None))
            self.assertIs(is_right(source, made), not found)
            for word in [fault[0] for fault in found] or ["right"]:
                words[word] = words.get(word, 0) + 1
        self.assertEqual(sorted(words), ["done", "late", "leaf", "over", "right", "stuck", "told"])
        self.assertGreater(min(words.values()), 15, words)

    def test_plain_made_is_right(self):
        rng = dice(111)
        for _ in range(120):
            source = even_source(rng, 4, "xyz", (0, 1, 1, 2), 4)
            self.assertEqual(faults(source, plain_made(source)), [])
        source = source_from("a* - x.1.40 x.1.0; b* +c x.1.40 x.1.1")
        self.assertIs(is_right(source, plain_made(source)), True)


class WorldsTest(unittest.TestCase):

    def told_wrongly(self, source, made, turns, conditions):
        expected = source_told(source, conditions, turns)
        return any(all_told(source, made, turns, conditions, widths) != {expected} for widths in some_widths(made, 2))

    def test_beside_all_worlds_of_few_turns(self):
        counts = {"right": 0, "wrong": 0, "seen": 0}
        for rng, source, made in some(112, 220):
            if rng.random() < 0.4:
                made = safe_made(rng, source)
            if is_stuck(made[2], made[3]):
                continue
            right = is_right(source, made)
            counts["right" if right else "wrong"] += 1
            names = len(names_in(made))
            for turns, conditions in itertools.product(range(4 if names < 3 else 3 if names == 3 else 2), all_conditions(source)):
                if self.told_wrongly(source, made, turns, conditions):
                    counts["seen"] += 1
                    self.assertIn(conditions, [fault[1] for fault in faults(source, made)])
                    break
            for fault in faults(source, made):
                world = fault_world(source, made, fault)
                self.assertEqual(world[1], fault[1])
                self.assertNotEqual(told_by_hand(source, made, world), source_told(source, world[1], world[0]))
        self.assertGreater(min(counts.values()), 50, counts)


def is_paper_by_hand(source, made, thing):
    """Whether the thing is a PAPER of a MADE that is right, in the words of [16]."""
    least = {}
    for row in made[2]:
        for one, other, d in [*((*pair, 0) for pair in zip(row, row[1:])), *((row[-1], row[0], 1) for _ in row[:1])]:
            least[one, other] = min(d, least.get((one, other), d))
    for one, other, d in made[3]:
        least[one, other] = min(d, least.get((one, other), d))

    def total(way, one, other):
        pieces = list(zip(way, way[1:]))
        if not pieces or (way[0], way[-1]) != (one, other) or not all(piece in least for piece in pieces):
            return 1000
        return sum(least[piece] for piece in pieces)

    expected = []
    for conditions in all_conditions(source):
        hand = HandWord(source, made, conditions)
        for name, number, writer, d in hand.kept:
            expected.append((conditions, name, number, writer, d, hand))
    expected = sorted(expected, key=lambda row: row[:5])
    if type(thing) is not tuple or len(thing) != len(expected):
        return False
    for row, (conditions, name, number, writer, d, hand) in zip(thing, expected):
        if not (type(row) is tuple and len(row) == 5 and repr(row[:3]) == repr((conditions, name, number))):
            return False
        _, _, _, way, guards = row
        if not is_way(way) or total(way, writer, name) > d or type(guards) is not tuple:
            return False
        others = hand.looked_at(writer)
        if len(guards) != len(others):
            return False
        for guard, other in zip(guards, others):
            if not (type(guard) is tuple and len(guard) == 3 and guard[0] == other and is_way(guard[1]) and is_way(guard[2])):
                return False
            back = 0 if other == name and guard[1] == (name,) else 1000 if other == name else total(guard[1], name, other)
            on = 0 if other == writer and guard[2] == () else 1000 if other == writer else total(guard[2], other, writer)
            bound = 1
            if other == writer:
                bound = hand.homes[writer][1] if hand.homes[writer][0] == "cells" else 1
            if back + on + d > bound:
                return False
    return True


def is_way(thing):
    return type(thing) is tuple and all(type(part) is str for part in thing)


class PaperTest(unittest.TestCase):

    def test_papers_and_bent_ones(self):
        counts, rights = {True: 0, False: 0}, 0
        for rng, source, made in some(113, 300):
            made = safe_made(rng, source) if rng.random() < 0.7 else made
            paper = call(self, why_right, source, made)
            self.assertIs(paper is None, not is_right(source, made))
            self.assertIs(call(self, is_why_right, source, made, paper), paper is not None)
            if paper is None:
                for thing in ((), None, ((), 0)):
                    self.assertIs(is_why_right(source, made, thing), False)
                continue
            rights += paper != ()
            self.assertTrue(is_paper_by_hand(source, made, paper))
            things = [thing for thing in thing_variants(paper)] + list(ODD_THINGS)
            things += [self.longer(rng, names_in(made), paper) for _ in range(10) if paper]
            for thing in rng.sample(things, min(len(things), 60)):
                expected = is_paper_by_hand(source, made, thing)
                counts[expected] += 1
                self.assertIs(is_why_right(source, made, thing), expected, thing)
        self.assertGreater(min(*counts.values(), rights), 40, (counts, rights))

    def longer(self, rng, names, paper):
        """This PAPER with one way through one name more, or through other ones."""
        rows = list(paper)
        at = rng.randrange(len(rows))
        conditions, name, number, way, guards = rows[at]
        if rng.random() < 0.5:
            place = rng.randint(1, len(way) - 1)
            way = (*way[:place], rng.choice(names), *way[place:])
        else:
            guards = list(guards)
            which = rng.randrange(len(guards))
            other, back, on = guards[which]
            back = (*back[:1], rng.choice(names), *back[1:]) if rng.random() < 0.5 else (back[0], *back)
            guards[which] = (other, back, on)
        rows[at] = (conditions, name, number, way, tuple(guards))
        return tuple(rows)

    def test_a_longer_way_is_right_too(self):
        paper = why_right(SOURCE, MADE)
        self.assertEqual(paper, (((), "b", 0, ("a", "b"), (("a", ("b", "a"), ()),)),))
        # From b to a two turns are allowed, and no more.
        for back, right in [(("b", "a"), True), (("b", "b", "a"), False), (("b",), False), ((), False), (("b", "a", "a"), False)]:
            self.assertIs(is_why_right(SOURCE, MADE, (((), "b", 0, ("a", "b"), (("a", back, ()),)),)), right, back)
        near = with_wait(MADE, "b", "a", 1)
        for back, right in [(("b", "a"), True), (("b", "b", "a"), True), (("b", "a", "a"), True), (("b", "b", "a", "a"), False)]:
            self.assertIs(is_why_right(SOURCE, near, (((), "b", 0, ("a", "b"), (("a", back, ()),)),)), right, back)
        for way, right in [(("a", "b"), True), (("a", "a", "b"), False), (("a", "b", "b"), False), (("b", "b"), False), ((), False)]:
            self.assertIs(is_why_right(SOURCE, MADE, (((), "b", 0, way, (("a", ("b", "a"), ()),)),)), right, way)
        for row in [((), "b", False, *paper[0][3:]), ([], *paper[0][1:]), ((), "b", 1, *paper[0][3:]), paper[0][:4]]:
            self.assertIs(is_why_right(SOURCE, MADE, (row,)), False, row)

    def test_nothing_to_read(self):
        source = source_from("b* - y.1.0 x.1.0")
        made = plain_made(source)
        self.assertEqual(why_right(source, made), ())
        for thing in ODD_THINGS:
            self.assertIs(is_why_right(source, made, thing), repr(thing) == "()")
            self.assertIs(is_why_right(SOURCE, MADE, thing), False)
            self.assertIs(is_why_right(SOURCE, with_mask(MADE, "b", ()), thing), False)


class ErrorsTest(unittest.TestCase):

    def test_not_even(self):
        rng, many = dice(114), 0
        while many < 20:
            source = random_source(rng)
            if is_even(source):
                continue
            many += 1
            names = sorted(statement[0] for statement in source[0])
            every = tuple(all_conditions(source))
            made = (
                tuple((name, tuple(() for _ in dict((part[0], part[3]) for part in source[0])[name])) for name in names), (),
                (tuple(names),), ((names[0], names[0], 0),) if many > 10 else (), tuple((name, every) for name in names),
                tuple((name, ("seat", 0)) for name in names), (),
            )
            self.assertIs(is_made(source, made), True)
            error = f"NotEven(array={uneven_arrays(source)[0]!r})"
            for function, more in ((faults, ()), (first_fault, ()), (is_right, ()), (kept_reads, ((),)), (why_right, ()), (is_why_right, (None,))):
                raises(self, error, function, source, made, *more)


class ExamplesTest(unittest.TestCase):

    def test_examples(self):
        check_examples(self, EXAMPLES, names_for("lastword"))


if __name__ == "__main__":
    unittest.main()
