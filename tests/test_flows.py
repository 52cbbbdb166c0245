"""TREES and FLOWS [6]."""

import unittest

from builtahead import flows
from builtahead.flows import (
    all_conditions, asked_in, flow, is_tree, later_tree, leaf, leaves, plain_tree, telling_conditions, tree_of_read,
)
from builtahead.meets import is_even, uneven_arrays
from builtahead.sources import acts, conditions_of, reads_of, roots_of_step, source_from, statement_names
from tests.tools import (
    all_subsets, call, check_examples, check_things, dice, listed, raises, random_source, random_tree, thing_variants,
)

EXAMPLES = """
    >>> u, w = ("u", (), ("x", 0, 0), (("in", 1, 0),)), ("w", ("c", True), ("x", 0, 0), (("x", 0, 0),))
    >>> source = ((u, w, ("s", (), ("y", 1, 2), (("x", 0, 0), ("y", 1, 0)))), ("s",))
    >>> flow(source), tree_of_read(source, "s", 1), all_conditions(source)
    ((('s', (('c', ('u', 0), ('w', 0)), ('s', 2))), ('u', ((),)), ('w', (('u', 0),))), ('s', 2), [(), ('c',)])
    >>> tree = ("c", ("u", 0), ("w", 0))
    >>> leaf(tree, ("c", "e")), leaf(tree, ()), leaves(tree), asked_in(tree), plain_tree(("e", (), tree)), telling_conditions(tree, ("u", 0)), later_tree(tree, 2), is_tree(("u",), tree)
    (('w', 0), ('u', 0), (('u', 0), ('w', 0)), ('c',), ('c', ('e', (), ('u', 0)), ('e', (), ('w', 0))), ('c',), ('c', ('u', 2), ('w', 2)), False)
"""

UNEVEN = source_from("s* - x.1.0 x.2.0 y.1.0; t - y.1.3 z.1.0; u +c w.2.0 w.1.0")


def led_to(tree, conditions):
    """What the TREE leads to, as [6] says it."""
    if len(tree) == 3:
        return led_to(tree[2] if tree[0] in conditions else tree[1], conditions)
    return tree


def standing(tree):
    """All conditions that stand in the TREE."""
    return {tree[0]} | standing(tree[1]) | standing(tree[2]) if len(tree) == 3 else set()


def is_plain(tree):
    """Whether the TREE is plain, as [6] says it."""
    if len(tree) != 3:
        return True
    if plain_wrongly_alike(tree[1], tree[2]):
        return False
    behind = standing(tree[1]) | standing(tree[2])
    return all(tree[0] < other for other in behind) and is_plain(tree[1]) and is_plain(tree[2])


def plain_wrongly_alike(one, other):
    """Whether two TREES lead to the same by all sets."""
    return all(led_to(one, named) == led_to(other, named) for named in all_subsets(standing(one) | standing(other)))


class TreeTest(unittest.TestCase):

    def test_random_trees(self):
        rng = dice(11)
        for _ in range(250):
            tree = random_tree(rng, ("a", "b", "c", "d"), ("u", "w"), rng.randint(0, 4))
            other = random_tree(rng, ("b", "c", "e"), ("u", "w"), rng.randint(0, 3))
            sets = all_subsets(["a", "b", "c", "d", "e", "zz"])
            plain = call(self, plain_tree, tree)
            self.assertTrue(is_plain(plain), plain)
            self.assertEqual([led_to(plain, named) for named in sets], [led_to(tree, named) for named in sets])
            self.assertEqual([leaf(tree, named) for named in sets], [led_to(tree, named) for named in sets])
            self.assertEqual(call(self, leaves, tree), tuple(sorted({led_to(tree, named) for named in sets})))
            self.assertEqual(call(self, asked_in, tree), tuple(sorted(standing(tree))))
            self.assertEqual(call(self, plain_tree, plain), plain)
            later = call(self, later_tree, tree, 3)
            self.assertEqual(
                [led_to(later, named) for named in sets],
                [(part[0], part[1] + 3) if part else () for part in [led_to(tree, named) for named in sets]],
            )
            self.assertEqual(asked_in(later), asked_in(tree))
            telling = [
                named for named in all_subsets(standing(tree) | standing(other)) if led_to(tree, named) != led_to(other, named)
            ]
            self.assertEqual(call(self, telling_conditions, tree, other), telling[0] if telling else None)
            self.assertIsNone(telling_conditions(tree, plain))
            self.assertIs(is_tree(("u", "w"), tree), True)
            call(self, leaf, tree, ("b", "d"))

    def test_trees_that_differ_in_a_leaf(self):
        rng = dice(15)
        longest = 0
        for _ in range(400):
            tree = random_tree(rng, ("a", "b", "c", "d"), ("u",), 4)
            other = self.with_other_leaf(rng, tree)
            telling = [
                named for named in all_subsets(standing(tree) | standing(other)) if led_to(tree, named) != led_to(other, named)
            ]
            self.assertEqual(telling_conditions(tree, other), telling[0] if telling else None)
            longest = max([longest, *(len(named) for named in telling[:1])])
        self.assertEqual(longest, 4)
        self.assertEqual(telling_conditions(("a", ("b", (), ("u", 0)), ()), ()), ("b",))

    def with_other_leaf(self, rng, tree):
        if len(tree) < 3:
            return ("w", 7)
        at = rng.choice([1, 2])
        return tree[:at] + (self.with_other_leaf(rng, tree[at]),) + tree[at + 1:]

    def test_small_trees(self):
        self.assertEqual(call(self, leaf, (), ("a",)), ())
        self.assertEqual(call(self, leaf, ("u", 3), ()), ("u", 3))
        self.assertEqual(call(self, leaves, ()), ((),))
        self.assertEqual(call(self, asked_in, ("u", 3)), ())
        self.assertEqual(call(self, plain_tree, ("a", ("u", 1), ("u", 1))), ("u", 1))
        self.assertEqual(call(self, plain_tree, ("a", (), ())), ())
        self.assertEqual(call(self, plain_tree, ("a", ("a", ("u", 1), ("u", 2)), ("a", ("u", 3), ()))), ("a", ("u", 1), ()))
        self.assertEqual(call(self, leaves, ("a", ("a", ("u", 1), ("u", 2)), ())), ((), ("u", 1)))
        self.assertEqual(call(self, later_tree, (), 5), ())
        self.assertEqual(call(self, later_tree, ("a", ("u", 1), ("u", 1)), 0), ("a", ("u", 1), ("u", 1)))
        self.assertEqual(call(self, later_tree, ("u", 10 ** 30), 10 ** 30), ("u", 2 * 10 ** 30))
        self.assertIsNone(call(self, telling_conditions, (), ()))
        self.assertEqual(call(self, telling_conditions, (), ("u", 0)), ())

    def test_conditions_that_do_not_matter_count_where_they_stand(self):
        one = ("a", ("b", (), ("u", 0)), ("b", (), ("u", 0)))
        self.assertEqual(telling_conditions(one, ()), ("a", "b"))
        self.assertEqual(telling_conditions(("b", (), ("u", 0)), ("a", (), ())), ("a", "b"))
        self.assertEqual(telling_conditions(("b", (), ("u", 0)), ()), ("b",))

    def test_six_conditions_and_twelve_deep(self):
        tree = ("u", 0)
        for at in range(12):
            tree = ("fedcba"[at % 6], tree, ("w", at)) if at % 3 else ("fedcba"[at % 6], (), tree)
        plain = plain_tree(tree)
        self.assertTrue(is_plain(plain))
        for named in all_subsets("abcdef"):
            self.assertEqual(led_to(plain, named), led_to(tree, named))
        full = [(name, at) for name in "uw" for at in range(32)]
        for condition in "abcdef":
            full = [(condition, no, yes) for no, yes in zip(full[::2], full[1::2])]
        plain = plain_tree(full[0])
        self.assertTrue(all(led_to(plain, named) == led_to(full[0], named) for named in all_subsets("abcdef")))
        self.assertEqual(len(leaves(full[0])), 64)
        self.assertIsNone(telling_conditions(plain, full[0]))


class IsTreeTest(unittest.TestCase):

    def test_right_and_wrong(self):
        names = ("u", "w")
        for thing in [(), ("u", 0), ("w", 10 ** 60), ("c", (), ("u", 1)), ("u", ("u", 0), ("u", 0)), ("a", ("b", (), ()), ("a", (), ()))]:
            self.assertIs(is_tree(names, thing), True)
            self.assertIs(is_tree(listed(names), thing), True)
            self.assertIs(is_tree(names, listed(thing)), False)
        for thing in [
            ("v", 0), ("u", -1), ("u", True), ("u", "0"), ("u",), ("u", 0, 0), ("c", (), ("v", 0)), ("C", (), ()), ("", (), ()),
            ("c", (), [],), ("c", (), (), ()), (("c",), (), ()), (0, (), ()), ("abcdefghi", (), ()), ((),), ("c", None, ()),
        ]:
            self.assertIs(is_tree(names, thing), False, thing)
        self.assertIs(is_tree((), ()), True)
        self.assertIs(is_tree((), ("u", 0)), False)
        for thing in thing_variants(("c", ("u", 1), ("d", (), ("w", 0)))):
            if repr(thing) not in ("('c', (), ('d', (), ('w', 0)))", "('c', ('u', 1), ())"):
                self.assertIs(is_tree(names, thing), False, thing)

    def test_many_conditions(self):
        tree = ()
        for word in ("aa", "bb", "cc", "dd", "ee", "ff", "gg", "hh", "ii", "jj", "kk"):
            tree = (word, ("u", 1), tree)
        self.assertIs(is_tree(("u",), tree), True)

    def test_odd_things(self):
        right = ["()", "('a', 0)", "('a', (), ())"]
        check_things(self, is_tree, (("a",),), lambda thing: repr(thing) in right)


class FlowTest(unittest.TestCase):

    def test_beside_going_through(self):
        rng = dice(12)
        seen = 0
        for _ in range(300):
            source = random_source(rng)
            if not is_even(source):
                raises(self, f"NotEven(array={uneven_arrays(source)[0]!r})", flow, source)
                continue
            seen += 1
            trees = dict(call(self, flow, source))
            self.assertEqual(list(trees), sorted(statement_names(source)))
            self.assertEqual(call(self, all_conditions, source), all_subsets(conditions_of(source)))
            for name in statement_names(source):
                places = reads_of(source, name)
                self.assertEqual(len(trees[name]), len(places))
                for number, place in enumerate(places):
                    tree = call(self, tree_of_read, source, name, number)
                    self.assertEqual(tree, trees[name][number])
                    self.assertTrue(is_plain(tree))
                    self.assertIs(is_tree(statement_names(source), tree), True)
                    for conditions in all_conditions(source):
                        self.check_read(source, conditions, name, number, leaf(tree, conditions))
        self.assertGreater(seen, 60)

    def check_read(self, source, conditions, name, number, told):
        """What the leaf tells, beside a walk of the SOURCE turn by turn."""
        if not acts(source, name, conditions):
            return
        array, a, b = reads_of(source, name)[number]
        for turn in range(7):
            root = roots_of_step(source, conditions, name, turn)[number]
            if told == () or turn < told[1]:
                self.assertEqual(root, ("first", array, a * turn + b))
            else:
                self.assertEqual(root, ("step", told[0], turn - told[1]))

    def test_trees_by_guards(self):
        source = source_from("a - x.0.0; b +c x.0.0; d -e x.0.0; f* - y.0.0 x.0.0")
        self.assertEqual(tree_of_read(source, "f", 0), ("c", ("e", ("d", 0), ("a", 0)), ("e", ("d", 0), ("b", 0))))
        none = source_from("b +c x.0.0 x.0.0 y.0.0; d -c x.0.0")
        self.assertEqual(flow(none), (("b", (("c", ("d", 1), ("b", 1)), ())), ("d", ())))
        self.assertEqual(all_conditions(source), [(), ("c",), ("c", "e"), ("e",)])
        self.assertEqual(all_conditions(source_from("a - x.0.0")), [()])

    def test_errors_in_their_order(self):
        raises(self, "NoName(name='v')", tree_of_read, UNEVEN, "v", 7)
        raises(self, "NoNumber(number=7)", tree_of_read, UNEVEN, "t", 7)
        raises(self, "NoNumber(number=1)", tree_of_read, UNEVEN, "t", 1)
        raises(self, "NoNumber(number=-1)", tree_of_read, UNEVEN, "t", -1)
        raises(self, "NotEven(array='w')", tree_of_read, UNEVEN, "t", 0)
        raises(self, "NotEven(array='w')", flow, UNEVEN)


class ExamplesTest(unittest.TestCase):

    def test_examples(self):
        check_examples(self, EXAMPLES, vars(flows))


if __name__ == "__main__":
    unittest.main()
