"""Needs [14], beside the STORIES of runs of many turns."""

import itertools
import unittest

from builtahead.flows import all_conditions, flow
from builtahead.mades import is_made
from builtahead.meets import is_even, uneven_arrays
from builtahead.needs import (
    chain_to, ever_needed, is_chain_to, is_looked_at, last_turns, looked_at, looks, made_looks, needed, needed_names,
    struck, when_needed,
)
from builtahead.sources import acts, source_from, source_told, statement_names
from tests.tools import call, check_examples, check_things, dice, names_for, raises, random_source, thing_variants
from tests.worlds import even_source, led_by, random_made

EXAMPLES = """
    >>> pre, total = ("pre", (), ("p", 1, 1), (("in", 1, 0),)), ("sum", (), ("s", 0, 0), (("s", 0, 0), ("p", 1, 1)))
    >>> log, out = ("log", ("debug", True), ("g", 0, 0), (("p", 1, 1),)), ("out", (), ("y", 1, 2), (("p", 1, 0), ("y", 1, 0)))
    >>> source = ((pre, total, log, out), ("log", "out"))
    >>> needed(source, ()), ever_needed(source), when_needed(source, "log"), looks(source, ()), chain_to(source, (), "pre"), chain_to(source, ("debug",), "pre")
    (('out', 'pre'), ('log', 'out', 'pre'), (('debug',),), (('out', 0, 'pre', 1), ('out', 1, 'out', 2)), ('out', 'pre'), ('log', 'pre'))
    >>> last_turns(source, (), "pre"), [is_looked_at(source, (), "pre", turn, 4) for turn in range(-1, 5)], looked_at(source, (), 2), struck(source) == ((pre, log, out), ("log", "out"))
    (1, [False, True, True, True, False, False], (('out', 0), ('out', 1), ('pre', 0)), True)
    >>> last_turns(source, (), "in")
    raises NoName(name='in')
"""

UNEVEN = source_from("s* - x.1.0 x.2.0; t - y.1.3 z.1.0")
# By so many turns each CHAIN without a name twice has come to an end.
MANY = 24


def some(seed, count):
    rng = dice(seed)
    for _ in range(count):
        source = even_source(rng, 4, "xyz", (0, 1, 1, 1, 2), 3)
        yield rng, source


def looks_by_hand(source, conditions):
    """All looks of all STATEMENTS, needed or not."""
    found = [(name, at, led_by(tree, conditions)) for name, trees in flow(source) for at, tree in enumerate(trees)]
    return [(name, at, *leaf) for name, at, leaf in found if leaf]


def chains_by_hand(source, conditions, most):
    """All CHAINs of at most so many NAMEs, each with its sum."""
    every = looks_by_hand(source, conditions)
    for many in range(1, most + 1):
        for chain in itertools.product(sorted(statement_names(source)), repeat=many):
            if chain[0] in source[1] and acts(source, chain[0], conditions):
                sums = [[d for s, _, t, d in every if (s, t) == pair] for pair in zip(chain, chain[1:])]
                if all(sums):
                    yield chain, sum(min(found) for found in sums)


def told_rows(source, conditions, many):
    """The pairs (name, turn) of which the STORY has rows."""
    return tuple((name, turn) for name, turn, _ in source_told(source, conditions, many))


class NeededTest(unittest.TestCase):

    def test_beside_stories(self):
        asked = [0, 0]
        for rng, source in some(90, 100):
            kept = {}
            for conditions in all_conditions(source):
                rows = told_rows(source, conditions, MANY)
                expected = tuple(sorted({name for name, _ in rows}))
                self.assertEqual(call(self, needed, source, conditions), expected)
                self.assertEqual(needed(source, (*conditions, "zz")), expected)
                every = tuple(sorted(look for look in looks_by_hand(source, conditions) if look[0] in expected))
                self.assertEqual(call(self, looks, source, conditions), every)
                for name in expected:
                    kept.setdefault(name, []).append(conditions)
                for many in (0, 1, 2, 3, 7):
                    self.assertEqual(looked_at(source, conditions, many), told_rows(source, conditions, many))
                call(self, looked_at, source, conditions, 5)
                for name in statement_names(source):
                    self.check_turns(source, conditions, name, rows)
            self.assertEqual(call(self, ever_needed, source), tuple(sorted(kept)))
            for name in statement_names(source):
                asked[name in kept] += 1
                self.assertEqual(call(self, when_needed, source, name), tuple(kept.get(name, [])))
            self.check_struck(source, kept)
        self.assertGreater(min(asked), 20)

    def check_turns(self, source, conditions, name, rows):
        turns = [turn for other, turn in rows if other == name]
        expected = MANY - 1 - max(turns) if turns else None
        self.assertEqual(call(self, last_turns, source, conditions, name), expected)
        for many in (0, 1, 3, 5):
            for turn in (-1, 0, 1, 2, 4, 5):
                is_row = (name, turn) in told_rows(source, conditions, many)
                self.assertIs(is_looked_at(source, conditions, name, turn, many), is_row)
        call(self, is_looked_at, source, conditions, name, 0, 3)
        for turn, many in ((0, -1), (-1, -1), (-5, 10 ** 30), (10 ** 30, 10 ** 30), (10 ** 30, 5)):
            self.assertIs(is_looked_at(source, conditions, name, turn, many), False)
        self.assertIs(is_looked_at(source, conditions, name, 10 ** 30, 2 * 10 ** 30), bool(turns))

    def check_struck(self, source, kept):
        less = call(self, struck, source)
        self.assertEqual(less[0], tuple(part for part in source[0] if part[0] in kept))
        self.assertEqual(less[1], tuple(name for name in source[1] if name in kept))
        for conditions in all_conditions(source):
            self.assertEqual(source_told(less, conditions, 9), source_told(source, conditions, 9))
        # Without one more it tells something else by some conditions.
        for part in less[0]:
            fewer = (tuple(other for other in less[0] if other != part), tuple(name for name in less[1] if name != part[0]))
            stories = [(source_told(fewer, named, MANY), source_told(less, named, MANY)) for named in all_conditions(source)]
            self.assertTrue(any(one != other for one, other in stories))

    def test_all_struck(self):
        source = source_from("s - x.1.0 x.1.0; t +c y.1.3 x.1.0")
        self.assertEqual((struck(source), ever_needed(source), needed(source, ("c",)), looked_at(source, (), 60)), (((), ()), (), (), ()))
        self.assertEqual(struck(source_from("s* - x.1.0; t - y.1.3")), ((("s", (), ("x", 1, 0), ()),), ("s",)))
        far = source_from("s* - x.1.9 x.1.0")
        self.assertEqual((last_turns(far, (), "s"), len(looked_at(far, (), 60))), (0, 60))


class ChainTest(unittest.TestCase):

    def test_beside_all_chains(self):
        found = [0, 0]
        for rng, source in some(91, 60):
            for conditions in all_conditions(source):
                every = list(chains_by_hand(source, conditions, max(3, len(source[0]))))
                for name in statement_names(source):
                    here = [chain for chain, _ in every if chain[-1] == name]
                    least = min(here, key=lambda chain: (len(chain), chain), default=None)
                    found[least is None] += 1
                    self.assertEqual(call(self, chain_to, source, conditions, name), least)
                    sums = [total for chain, total in every if chain[-1] == name]
                    self.assertEqual(last_turns(source, conditions, name), min(sums, default=None))
                    for many in range(4):
                        for thing in itertools.product(statement_names(source), repeat=many):
                            self.assertIs(is_chain_to(source, conditions, name, thing), thing in here)
                    call(self, is_chain_to, source, conditions, name, least)
                    for thing in thing_variants(least):
                        expected = type(thing) is tuple and thing in [chain for chain, _ in chains_by_hand(source, conditions, len(thing))]
                        self.assertIs(is_chain_to(source, conditions, name, thing), expected and thing[-1] == name, thing)
        self.assertGreater(min(found), 50)

    def test_longer_chains_and_odd_things(self):
        source = source_from("a* - x.1.1 x.1.0; b - y.1.0 y.1.0")
        self.assertIs(is_chain_to(source, (), "a", ("a",) * 50), True)
        self.assertEqual((chain_to(source, (), "a"), chain_to(source, (), "b"), last_turns(source, (), "a")), (("a",), None, 0))
        check_things(self, is_chain_to, (source, (), "a"), lambda thing: repr(thing) in ["('a',)", "('a', 'a')"])
        check_things(self, is_chain_to, (source, (), "b"), lambda thing: False)

    def test_of_two_looks_the_least(self):
        source = source_from("a* - y.1.0 x.1.0 x.1.1; b - x.1.2")
        self.assertEqual((looks(source, ()), last_turns(source, (), "b")), ((("a", 0, "b", 2), ("a", 1, "b", 1)), 1))


class MadeTest(unittest.TestCase):

    def test_needed_names(self):
        counts = [0, 0, 0]
        for rng, source in some(92, 250):
            made = random_made(rng, source)
            self.assertIs(is_made(source, made), True)
            trees = {**dict(made[0]), **{name: (tree,) for name, _, tree in made[1]}}
            moves = [name for name, _, _ in made[1]]
            for conditions in all_conditions(source):
                names = [name for name in needed(source, conditions) if name in dict(made[0])]
                for _ in moves:
                    leaves = [led_by(tree, conditions) for name in names for tree in trees[name]]
                    names = sorted({*names, *(leaf[0] for leaf in leaves if leaf and leaf[0] in moves)})
                self.assertEqual(call(self, needed_names, source, made, conditions), tuple(names))
                leads = [(name, at, led_by(tree, conditions)) for name in names for at, tree in enumerate(trees[name])]
                every = sorted((name, at, *leaf) for name, at, leaf in leads if leaf)
                self.assertEqual(call(self, made_looks, source, made, conditions), tuple(every))
                counts[len([name for name in names if name in moves])] += 1
        self.assertGreater(min(counts), 10, counts)


class ErrorsTest(unittest.TestCase):

    def test_not_even(self):
        rng, many = dice(93), 0
        made = random_made(rng, even_source(rng))
        while many < 15:
            source = random_source(rng)
            if not is_even(source):
                many += 1
                error = f"NotEven(array={uneven_arrays(source)[0]!r})"
                name = statement_names(source)[0]
                for function, more in (
                    (needed, ((),)), (ever_needed, ()), (struck, ()), (looks, ((),)), (looked_at, ((), 3)),
                    (needed_names, (made, ())), (made_looks, (made, ())), (when_needed, (name,)), (chain_to, ((), name)),
                    (is_chain_to, ((), name, None)), (last_turns, ((), name)), (is_looked_at, ((), name, 0, 3)),
                ):
                    raises(self, error, function, source, *more)

    def test_no_name_ahead_of_not_even(self):
        for source in (UNEVEN, source_from("s* - x.1.0")):
            for name in ("z", "", "S", "any string"):
                error = f"NoName(name={name!r})"
                raises(self, error, when_needed, source, name)
                raises(self, error, chain_to, source, (), name)
                raises(self, error, is_chain_to, source, (), name, ("s",))
                raises(self, error, last_turns, source, (), name)
                raises(self, error, is_looked_at, source, (), name, 0, 1)


class ExamplesTest(unittest.TestCase):

    def test_examples(self):
        check_examples(self, EXAMPLES, names_for("needs"))


if __name__ == "__main__":
    unittest.main()
