"""Texts [7]."""

import unittest

from builtahead import texts
from builtahead.errors import BadText
from builtahead.sources import conditions_of, source_told
from builtahead.texts import (
    names_from, names_text, numbers_from, numbers_text, story_from, story_text, tree_from, tree_text,
)
from tests.tools import call, check_examples, dice, raises, random_source, random_tree

EXAMPLES = """
    >>> names_text(("b", "a")), numbers_text((3, 0)), tree_text(("big", ("s", 1), ())), story_text((("s", 2, (("first", "x", 4), ("step", "t", 1))), ("t", 1, ())))
    ('b a', '3 0', 'big? s.1 -', 's.2 x:4 t.1; t.1')
    >>> names_from("b a"), tree_from("big? s.1 -"), story_from("s.2 x:4 t.1; t.1 -"), names_from("-"), tree_from("-")
    (('b', 'a'), ('big', ('s', 1), ()), (('s', 2, (('first', 'x', 4), ('step', 't', 1))), ('t', 1, ((),))), (), ())
    >>> tree_from("big? s.1")
    raises BadText(piece=2)
    >>> story_from("t.1; s.2")
    raises BadText(piece=1)
"""


class NamesAndNumbersTest(unittest.TestCase):

    def test_there_and_back(self):
        for names in [(), ("a",), ("b", "a", "b"), ("abcdefgh", "z"), ("a",) * 100]:
            self.assertEqual(call(self, names_from, call(self, names_text, names)), names)
        for numbers in [(), (0,), (3, 0, 3), (10 ** 39, 12), tuple(range(200))]:
            self.assertEqual(call(self, numbers_from, call(self, numbers_text, numbers)), numbers)
        self.assertEqual((names_text(()), numbers_text(()), names_from("-"), numbers_from("-")), ("-", "-", (), ()))
        self.assertEqual(numbers_text((0, 10, 10 ** 30)), "0 10 1" + "0" * 30)

    def test_wrong_names(self):
        for text, piece in [
            ("", 0), (" ", 0), ("a ", 1), (" a", 0), ("a  b", 1), ("a -", 1), ("- a", 0), ("- -", 0), ("A", 0), ("a b1", 1),
            ("abcdefghi", 0), ("a\nb", 0), ("a b c? d", 2), ("a \u00e9", 1), ("-a", 0), ("a;", 0), ("a b c 1 D", 3),
        ]:
            raises(self, f"BadText(piece={piece})", names_from, text)

    def test_wrong_numbers(self):
        for text, piece in [
            ("", 0), (" ", 0), ("1 ", 1), (" 1", 0), ("1  2", 1), ("1 -", 1), ("- 1", 0), ("00", 0), ("1 01", 1), ("-1", 0),
            ("+1", 0), ("1_0", 0), ("1 \u0661", 1), ("\u00b2", 0), ("0x1", 0), ("1.0", 0), ("1 2 a 03", 2), ("1\n", 0),
        ]:
            raises(self, f"BadText(piece={piece})", numbers_from, text)


class TreeTest(unittest.TestCase):

    def test_there_and_back(self):
        rng = dice(13)
        for _ in range(300):
            tree = random_tree(rng, ("c", "big", "abcdefgh"), ("u", "w"), 5)
            self.assertEqual(call(self, tree_from, call(self, tree_text, tree)), tree)
        self.assertEqual(tree_text(("a", ("b", (), ("u", 0)), ("a", ("w", 12), ()))), "a? b? - u.0 a? w.12 -")
        self.assertEqual(tree_from("c? - c? - -"), ("c", (), ("c", (), ())))
        self.assertEqual(tree_from("u." + "9" * 40), ("u", int("9" * 40)))

    def test_deep_ones(self):
        for text in ["a? " * 119 + "- " * 119 + "-", "a? - " * 100 + "-", "ab? z.10 " * 66 + "-"]:
            tree = tree_from(text)
            self.assertEqual(tree_text(tree), text)
            self.assertLessEqual(len(text), 600)

    def test_wrong_ones(self):
        for text, piece in [
            ("", 0), (" ", 0), ("a", 0), ("a?", 1), ("a? -", 2), ("a? - b?", 3), ("a? b? - - c?", 5), ("- -", 1), ("u.1 -", 1),
            ("u.1 x", 1), ("a? - - -", 3), ("a? - - x", 3), ("a? x - -", 1), ("a? - x", 2), ("? - -", 0), ("A? - -", 0),
            ("a?? - -", 0), ("a ? - -", 0), ("abcdefghi? - -", 0), ("u.01", 0), ("u.", 0), (".1", 0), ("u.-1", 0), ("u.1.2", 0),
            ("u:1", 0), ("U.1", 0), ("a?  - -", 1), (" -", 0), ("- ", 1), ("a? - ", 2), ("a? - - ", 3), ("--", 0), ("u.\u0661", 0),
            ("a?\n- -", 0), ("a? u.1 w.1; -", 2), ("a? b? c? d? - -", 6),
        ]:
            raises(self, f"BadText(piece={piece})", tree_from, text)


class StoryTest(unittest.TestCase):

    def test_there_and_back(self):
        rng = dice(14)
        for _ in range(200):
            source = random_source(rng)
            story = source_told(source, conditions_of(source), rng.randint(0, 4))
            self.assertEqual(call(self, story_from, call(self, story_text, story)), story)
        for story in [
            (), (("a", 0, ()),), (("a", 0, ((), ("first", "a", 0), ("step", "a", 0)) * 9), ("a", 10, ()), ("b", 2, ((),))),
            (("a", 2, ()), ("a", 10, ()), ("ab", 0, ()), ("b", 0, ())), (("a", 10 ** 39, (("step", "zz", 10 ** 39),)),),
        ]:
            self.assertEqual(call(self, story_from, call(self, story_text, story)), story)
        self.assertEqual(story_text(()), "-")
        self.assertEqual(story_text((("a", 0, ((),)), ("a", 1, ()))), "a.0 -; a.1")

    def test_wrong_ones(self):
        for text, piece in [
            ("", 0), (" ", 0), ("a", 0), ("a.0; ", 1), ("; a.0", 0), ("-; a.0", 0), ("a.0; -", 1), ("- -", 0), ("a:0", 0),
            ("a.0 x", 0), ("a.0 x.1.2", 0), ("a.0 x:-1", 0), ("a.0 x:01", 0), ("a.0  x:1", 0), ("a.0 ", 0), (" a.0", 0),
            ("a.00", 0), ("a.1; a.1", 1), ("a.1; a.0", 1), ("b.0; a.1", 1), ("a.2; a.10; a.9", 2), ("a.10; a.9", 1),
            ("a.0; b.0; ab.0", 2), ("a.0;b.0", 0), ("a.0; b.0;", 1), ("a.0; b.0 X:1", 1), ("a.0; b.0 abcdefghi:1; c", 1),
            ("A.0", 0), ("a.0 --", 0), ("a.0 (x)", 0), ("a.0\n", 0), ("a.1; a.1 x:0", 1), ("a.0; b; a.0", 1),
        ]:
            raises(self, f"BadText(piece={piece})", story_from, text)

    def test_the_error_keeps_its_piece(self):
        with self.assertRaises(BadText) as caught:
            story_from("a.0; b.1; c")
        self.assertEqual(caught.exception.piece, 2)


class ExamplesTest(unittest.TestCase):

    def test_examples(self):
        check_examples(self, EXAMPLES, vars(texts))


if __name__ == "__main__":
    unittest.main()
