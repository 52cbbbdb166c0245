"""SOURCES [4], with [2] and [3]."""

import unittest

from builtahead import sources
from builtahead.errors import BadText, NoName
from builtahead.sources import (
    acts, cells_after, conditions_of, guard_of, is_source, reads_of, roots_of_step, source_from, source_told,
    source_text, statement_names, statement_of, target_of,
)
from tests.tools import all_subsets, call, check_examples, check_things, dice, listed, raises, random_source, thing_variants

EXAMPLES = """
    >>> source = source_from("load - x.0.0 p.1.0; add* - s.0.0 s.0.0 x.0.0; mark* +big m.1.0 x.0.0")
    >>> statement_names(source), conditions_of(source), acts(source, "mark", ()), reads_of(source, "add"), guard_of(source, "mark")
    (('load', 'add', 'mark'), ('big',), False, (('s', 0, 0), ('x', 0, 0)), ('big', True))
    >>> source_told(source, (), 1), len(source_told(source, ("big",), 3))
    ((('add', 0, (('first', 's', 0), ('step', 'load', 0))), ('load', 0, (('first', 'p', 0),))), 9)
    >>> roots_of_step(source, ("big",), "add", 1), roots_of_step(source, (), "mark", 1), len(cells_after(source, ("big",), 3))
    ((('step', 'add', 0), ('step', 'load', 1)), None, 5)
    >>> source_from("a - x.0.0; b -- y.0.0")
    raises BadText(piece=1)
    >>> acts(source, "mul", ())
    raises NoName(name='mul')
"""

PLAIN = ("a", (), ("x", 0, 0), ())


def plain(*names):
    """A SOURCE of STATEMENTS alike but for their names."""
    return tuple((name, (), ("x", 0, 0), ()) for name in names), ()


def guarded(*conditions):
    """A SOURCE with a STATEMENT for each of these conditions."""
    return tuple((name, (condition, True), ("x", 0, 0), ()) for name, condition in zip("abcdefgh", conditions)), ()


def told_by_hand(source, conditions, turns):
    """What each STEP that acts reads, and the cells behind all, gone through as [3] says it."""
    written, read = {}, {}
    for turn in range(turns):
        for name, guard, target, reads in source[0]:
            if guard and (guard[0] in conditions) is not guard[1]:
                continue
            roots = []
            for array, a, b in reads:
                number = a * turn + b
                roots.append(written.get((array, number), ("first", array, number)))
            read[name, turn] = tuple(roots)
            array, a, b = target
            written[array, a * turn + b] = ("step", name, turn)
    return read, written


def story_by_hand(read, told):
    """The STORY of the STEPS of these names, found row by row."""
    rows = {step: roots for step, roots in read.items() if step[0] in told}
    while True:
        more = {root[1:] for roots in rows.values() for root in roots if root[0] == "step"} - set(rows)
        if not more:
            return tuple(sorted((name, turn, roots) for (name, turn), roots in rows.items()))
        rows.update({step: read[step] for step in more})


class ShapeTest(unittest.TestCase):

    def test_right_ones(self):
        for thing in [
            (((PLAIN),), ()), ((PLAIN,), ("a",)), plain(*"abcdefgh"), guarded("a", "b", "c", "d", "a", "b", "c", "d"),
            ((("abcdefgh", ("z", False), ("zzzzzzzz", 0, 0), (("x", 0, 0),) * 3),), ("abcdefgh",)),
            ((("a", (), ("x", 10 ** 50, 10 ** 60), (("x", 0, 10 ** 40),)),), ()), (plain("b", "a")[0], ("a", "b")),
        ]:
            self.assertIs(is_source(thing), True, thing)
            self.assertIs(is_source(listed(thing)), False, thing)

    def test_wrong_ones(self):
        for thing in [
            ((), ()), (PLAIN, ()), plain(*"abcdefghi"), plain("a", "b", "a"), guarded("a", "b", "c", "d", "e"),
            (plain("b", "a")[0], ("b", "a")), (plain("a")[0], ("b",)), (plain("a")[0], ("a", "a")), (plain("a")[0], "a"),
            (plain("a")[0], [None]), (plain("a")[0], (None,)), (plain("a")[0], ("a", None)), (plain("a")[0], (0, "a")), (plain("a")[0], ("a", ("a",))), (plain("a")[0], ("a",), ()), (plain("a")[0],),
            ((("a", (), ("x", 0, 0), (("x", 0, 0),) * 4),), ()), plain("A"), plain("abcdefghi"), plain(""), plain("a1"),
            plain("a\n"), plain("\u00e9"), plain(None), plain(("a",)),
            ((("a", ("c", 1), ("x", 0, 0), ()),), ()), ((("a", ("c", 0), ("x", 0, 0), ()),), ()),
            ((("a", ("c",), ("x", 0, 0), ()),), ()), ((("a", None, ("x", 0, 0), ()),), ()),
            ((("a", ("C", True), ("x", 0, 0), ()),), ()), ((("a", (), ("x", True, 0), ()),), ()),
            ((("a", (), ("x", 0, -1), ()),), ()), ((("a", (), ("x", 0), ()),), ()), ((("a", (), ("x", 0, 0), None),), ()),
            ((("a", (), ("x", 0, 0), (None,)),), ()), ((("a", (), ("x", 0, 0)),), ()),
        ]:
            self.assertIs(is_source(thing), False, thing)

    def test_each_change_of_a_kind_is_found(self):
        statement = ("a", ("c", True), ("x", 1, 2), (("y", 1, 0),))
        right = [((statement,), ()), ((statement[:3] + ((),),), ("a",)), ((statement[:1] + ((),) + statement[2:],), ("a",))]
        right += [((statement[:3] + ((("y", 1, 0),) * 2,),), ("a",))]
        for thing in thing_variants(((statement,), ("a",))):
            if repr(thing) not in [repr(other) for other in right]:
                self.assertIs(is_source(thing), False, thing)

    def test_odd_things(self):
        check_things(self, is_source, (), lambda thing: False)


class PartsTest(unittest.TestCase):

    SOURCE = source_from("b +big x.1.2 p.1.0 p.0.3; a* - s.0.0; c* -big m.1.0 x.0.0; d +also m.1.1 s.0.0 x.1.1 y.2.2")

    def test_parts(self):
        source = self.SOURCE
        self.assertEqual(call(self, statement_names, source), ("b", "a", "c", "d"))
        self.assertEqual(call(self, conditions_of, source), ("also", "big"))
        self.assertEqual(call(self, statement_of, source, "b"), ("b", ("big", True), ("x", 1, 2), (("p", 1, 0), ("p", 0, 3))))
        self.assertEqual(call(self, guard_of, source, "c"), ("big", False))
        self.assertEqual(call(self, guard_of, source, "a"), ())
        self.assertEqual(call(self, target_of, source, "d"), ("m", 1, 1))
        self.assertEqual(call(self, reads_of, source, "d"), (("s", 0, 0), ("x", 1, 1), ("y", 2, 2)))
        self.assertEqual(call(self, reads_of, source, "a"), ())
        self.assertEqual(call(self, conditions_of, plain("a")), ())

    def test_acts(self):
        source = self.SOURCE
        for conditions in [(), ("big",), ("also",), ("also", "big"), ("zz",), ("big", "other")]:
            self.assertIs(call(self, acts, source, "a", conditions), True)
            self.assertIs(call(self, acts, source, "b", conditions), "big" in conditions)
            self.assertIs(call(self, acts, source, "c", conditions), "big" not in conditions)
            self.assertIs(call(self, acts, source, "d", conditions), "also" in conditions)

    def test_no_name(self):
        for name in ("e", "big", "", "A b", "x", "bb"):
            told = f"NoName(name={name!r})"
            for function in (statement_of, guard_of, target_of, reads_of):
                raises(self, told, function, self.SOURCE, name)
            raises(self, told, acts, self.SOURCE, name, ())
            raises(self, told, roots_of_step, self.SOURCE, (), name, 0)


class ToldTest(unittest.TestCase):

    def test_edges(self):
        source = plain("a")[0], ("a",)
        self.assertEqual(call(self, source_told, source, (), 0), ())
        self.assertEqual(call(self, source_told, plain("a"), (), 3), ())
        self.assertEqual(call(self, source_told, source, (), 2), (("a", 0, ()), ("a", 1, ())))
        self.assertEqual(call(self, cells_after, source, (), 0), ())
        self.assertEqual(call(self, cells_after, source, (), 2), ((("x", 0), ("step", "a", 1)),))
        self.assertEqual(call(self, roots_of_step, source, (), "a", 0), ())
        never = guarded("c")[0], ("a",)
        self.assertEqual(call(self, source_told, never, (), 3), ())
        self.assertEqual(call(self, cells_after, never, (), 3), ())
        self.assertIsNone(call(self, roots_of_step, never, (), "a", 1))
        self.assertEqual(call(self, roots_of_step, never, ("c",), "a", 1), ())

    def test_a_step_reads_before_it_writes(self):
        source = source_from("a* - x.1.1 x.1.0 x.1.1")
        self.assertEqual(call(self, roots_of_step, source, (), "a", 0), (("first", "x", 0), ("first", "x", 1)))
        self.assertEqual(call(self, roots_of_step, source, (), "a", 2), (("step", "a", 1), ("first", "x", 3)))

    def test_most_turns(self):
        source = source_from("; ".join(f"{name}* - x.1.{at} x.1.0 x.0.3 y.2.0" for at, name in enumerate("abcdefgh")))
        read, written = told_by_hand(source, (), 200)
        self.assertEqual(source_told(source, (), 200), story_by_hand(read, source[1]))
        self.assertEqual(len(source_told(source, (), 200)), 1600)
        self.assertEqual(cells_after(source, (), 200), tuple(sorted(written.items())))
        self.assertEqual(roots_of_step(source, (), "d", 199), read["d", 199])

    def test_beside_going_through_by_hand(self):
        rng = dice(4)
        for _ in range(250):
            source, turns = random_source(rng), rng.randint(0, 6)
            self.assertIs(is_source(source), True)
            for conditions in all_subsets(conditions_of(source)):
                read, written = told_by_hand(source, conditions, turns)
                self.assertEqual(source_told(source, conditions, turns), story_by_hand(read, source[1]))
                self.assertEqual(cells_after(source, conditions, turns), tuple(sorted(written.items())))
                for name in statement_names(source):
                    for turn in range(turns):
                        self.assertEqual(roots_of_step(source, conditions, name, turn), read.get((name, turn)))
            call(self, source_told, source, conditions, turns)
            call(self, cells_after, source, conditions, turns)
            call(self, roots_of_step, source, conditions, name, 2)


class TextTest(unittest.TestCase):

    def test_there_and_back(self):
        rng = dice(5)
        for _ in range(300):
            source = random_source(rng, most=200)
            text = call(self, source_text, source)
            self.assertEqual(call(self, source_from, text), source)

    def test_texts(self):
        source = (("a", (), ("x", 0, 10), ()), ("b", ("c", True), ("y", 2, 0), (("x", 0, 0),) * 3), ("d", ("c", False), ("x", 0, 0), ())), ("a", "d")
        text = "a* - x.0.10; b +c y.2.0 x.0.0 x.0.0 x.0.0; d* -c x.0.0"
        self.assertEqual(call(self, source_text, source), text)
        self.assertEqual(call(self, source_from, text), source)
        self.assertEqual(source_from("b* - x.0.0; a* - x.0.0")[1], ("a", "b"))
        great = "a - x." + "9" * 40 + "." + "8" * 40
        self.assertEqual(source_from(great)[0][0][2], ("x", int("9" * 40), int("8" * 40)))
        self.assertEqual(source_text(source_from(great)), great)
        self.assertEqual(call(self, source_from, "abcdefgh* -hgfedcba zz.0.1"), ((("abcdefgh", ("hgfedcba", False), ("zz", 0, 1), ()),), ("abcdefgh",)))

    def test_wrong_pieces(self):
        right = "a - x.0.0"
        for wrong in [
            "", " ", "-", "b", "b -", "b - ", "b  - x.0.0", " b - x.0.0", "b - x.0.0 ", "b - x.0.0  x.0.0", "b -  x.0.0",
            "b x.0.0", "b - x.0", "b - x.0.0.0", "b - x.0.", "b - x..0", "b - .0.0", "b - x.00.0", "b - x.0.01", "b - x.-1.0",
            "b - x.+1.0", "b - x.1_0.0", "b - x.1.\u0661", "b - x.1.\u00b2", "b - X.0.0", "b - x:0:0", "b - x.0.0,",
            "b - x.0.0 x.0.0 x.0.0 x.0.0 x.0.0", "b - x.0.0 y", "b - x.0.0 -", "b +- x.0.0", "b -- x.0.0", "b + x.0.0",
            "b c x.0.0", "b *c x.0.0", "b +C x.0.0", "b +abcdefghi x.0.0", "b ++c x.0.0", "abcdefghi - x.0.0", "B - x.0.0",
            "b** - x.0.0", "*b - x.0.0", "* - x.0.0", "b * - x.0.0", "b1 - x.0.0", "b\t- x.0.0", "b - x.0.0\n", "\u00e9 - x.0.0",
            "b - abcdefghi.0.0", "b - x.0.0;", ";", "a - x.0.0", "a* - y.1.1 x.0.0", "b - x.0.0;c - x.0.0",
        ]:
            for text, number in [(right + "; " + wrong, 1), (right + "; " + wrong + "; also bad", 1)]:
                raises(self, f"BadText(piece={number})", source_from, text)
            if not wrong.startswith("a"):
                raises(self, "BadText(piece=0)", source_from, wrong)
        raises(self, "BadText(piece=0)", source_from, "; ".join(["a - x.0.0 x", "b"]))
        raises(self, "BadText(piece=2)", source_from, "a - x.0.0; b - x.0.0; ")

    def test_too_many(self):
        pieces = [f"{name} - x.0.0" for name in "abcdefghi"]
        self.assertEqual(len(source_from("; ".join(pieces[:8]))[0]), 8)
        raises(self, "BadText(piece=8)", source_from, "; ".join(pieces))
        pieces = [f"{name} +{name} x.0.0" for name in "abcde"]
        self.assertEqual(conditions_of(source_from("; ".join(pieces[:4]))), ("a", "b", "c", "d"))
        raises(self, "BadText(piece=4)", source_from, "; ".join(pieces))
        raises(self, "BadText(piece=5)", source_from, "; ".join(pieces[:4] + ["f -a x.0.0", "g -g x.0.0"]))

    def test_errors_keep_their_values(self):
        with self.assertRaises(BadText) as caught:
            source_from("a")
        self.assertEqual(caught.exception.piece, 0)
        with self.assertRaises(NoName) as caught:
            acts(plain("a"), "b", ())
        self.assertEqual(caught.exception.name, "b")


class ExamplesTest(unittest.TestCase):

    def test_examples(self):
        check_examples(self, EXAMPLES, vars(sources))


if __name__ == "__main__":
    unittest.main()
