"""What is MADE, by its parts [13]."""

import unittest

from builtahead import mades
from builtahead.flows import all_conditions, flow, leaves
from builtahead.hands import gap
from builtahead.mades import (
    cells_of, form_faults, home_of, is_done, is_made, is_shaped, made_from, made_text, mask_of, names_in, place_of_move,
    plain_made, row_of, trees_of, with_home, with_mask, with_rows, with_wait, with_waits, without_wait,
)
from builtahead.meets import uneven_arrays
from builtahead.sources import acts, source_from, statement_names
from tests.tools import (
    ODD_THINGS, call, check_examples, check_things, dice, names_for, raises, random_source, random_tree, thing_variants,
)
from tests.worlds import buffer, even_source, random_made

EXAMPLES = """
    >>> source = ((("a", (), ("x", 1, 0), ()), ("b", (), ("y", 1, 0), (("x", 1, 0),))), ("b",))
    >>> made = made_from("a; b a.0 | - | a; b | a b 0; b a 2 | a -; b - | a 2 1 1; b 0 | -")
    >>> made[0], made[2], made[5], is_made(source, made), made_text(with_wait(made, "b", "a", 1))
    ((('a', ()), ('b', (('a', 0),))), (('a',), ('b',)), (('a', ('cells', 2, 1, 1)), ('b', ('seat', 0))), True, 'a; b a.0 | - | a; b | a b 0; b a 1; b a 2 | a -; b - | a 2 1 1; b 0 | -')
    >>> form_faults(source, with_home(made, "a", ("cells", 3, 1, 1))), form_faults(source, with_rows(made, (("a", "b", "b"),))), is_made(source, plain_made(source))
    ([('numbers', 'a')], [('rows', 'b')], True)
    >>> made_from("a | - | a; b | a b")
    raises BadText(piece=3)
"""

SOURCE = source_from("a - x.1.0; b* +c y.1.0 x.1.0 y.0.3; d - z.0.0 x.1.1")
# All parts have something in them: two moves, three hands, one of them (), waits, masks without sets, an order.
MADE = (
    (("a", ()), ("b", (("m", 0), ("c", (), ("n", 1)))), ("d", (("a", 2),))),
    (("m", ("x", 1, 0), ("n", 0)), ("n", ("y", 1, 3), ("c", ("a", 0), ()))),
    (("a", "n"), (), ("m", "d", "b")),
    (("a", "b", 0), ("a", "b", 3), ("n", "m", 0)),
    (("a", ((), ("c",))), ("b", (("c",),)), ("d", ()), ("m", ((),)), ("n", ((), ("c",)))),
    (("a", ("cells", 2, 1, 1)), ("b", ("seat", 0)), ("d", ("seat", 7)), ("m", ("cells", 1, 1, 0)), ("n", ("cells", 3, 699051, 21))),
    (("a", "m"), ("m", "n")),
)
TEXT = (
    "a; b m.0, c? - n.1; d a.2 | m x.1.0 n.0; n y.1.3 c? a.0 - | a n; -; m d b | a b 0; a b 3; n m 0 | "
    "a -, c; b c; d; m -; n -, c | a 2 1 1; b 0; d 7; m 1 1 0; n 3 699051 21 | a m; m n"
)


def put(at, part, made=MADE):
    """This MADE with another part."""
    return (*made[:at], part, *made[at + 1:])


def some(seed, count):
    rng = dice(seed)
    for _ in range(count):
        source = even_source(rng)
        yield rng, source, random_made(rng, source)


class PartsTest(unittest.TestCase):

    def test_part_by_part(self):
        for rng, source, made in [*some(80, 60), (dice(0), SOURCE, MADE)]:
            steps, moves = dict(made[0]), {name: (place, tree) for name, place, tree in made[1]}
            names = sorted([*steps, *moves])
            self.assertEqual(call(self, names_in, made), tuple(names))
            for name in names:
                self.assertEqual(call(self, trees_of, made, name), steps[name] if name in steps else (moves[name][1],))
                self.assertEqual(call(self, place_of_move, made, name), moves[name][0] if name in moves else None)
                self.assertIn(name, made[2][call(self, row_of, made, name)])
                self.assertEqual(call(self, mask_of, made, name), dict(made[4])[name])
                home = dict(made[5])[name]
                self.assertEqual(call(self, home_of, made, name), home)
                self.assertEqual(call(self, cells_of, made, name), home[1] if home[0] == "cells" else 1)
                for conditions in all_conditions(source):
                    self.assertIs(call(self, is_done, made, name, conditions), conditions in dict(made[4])[name])
                self.assertIs(is_done(made, name, ("zz",)), False)
            for name in ("z", "", "A", "any string"):
                for function in (trees_of, place_of_move, row_of, mask_of, home_of, cells_of):
                    raises(self, f"NoName(name={name!r})", function, made, name)
                raises(self, f"NoName(name={name!r})", is_done, made, name, ())
                raises(self, f"NoName(name={name!r})", with_mask, made, name, ())
                raises(self, f"NoName(name={name!r})", with_home, made, name, ("seat", 0))

    def test_with_another_part(self):
        for rng, source, made in [*some(81, 30), (dice(1), SOURCE, MADE)]:
            names = names_in(made)
            name = rng.choice(names)
            rows = (names[::-1], ())
            self.assertEqual(call(self, with_rows, made, rows), put(2, rows, made))
            waits = (("b", "a", 1), ("a", "b", 0), ("b", "a", 1), ("zz", "a", 4))
            self.assertEqual(call(self, with_waits, made, waits), put(3, (("a", "b", 0), ("b", "a", 1), ("zz", "a", 4)), made))
            self.assertEqual(call(self, with_waits, made, ()), put(3, (), made))
            for wait in [("a", "b", 0), ("q", "r", 9), *made[3]]:
                more, fewer = sorted({*made[3], wait}), sorted({*made[3]} - {wait})
                self.assertEqual(call(self, with_wait, made, *wait), put(3, tuple(more), made))
                self.assertEqual(call(self, without_wait, made, *wait), put(3, tuple(fewer), made))
            mask, home = ((), ("c",)), ("cells", 5, 0, 0)
            self.assertEqual(call(self, with_mask, made, name, mask), put(4, tuple(sorted({**dict(made[4]), name: mask}.items())), made))
            self.assertEqual(call(self, with_home, made, name, home), put(5, tuple(sorted({**dict(made[5]), name: home}.items())), made))

    def test_shaped_things_that_are_not_made(self):
        bare = put(5, (("zz", ("seat", 1)),), put(4, ()))
        self.assertEqual(with_mask(bare, "d", ((),))[4], (("d", ((),)),))
        self.assertEqual(with_home(bare, "d", ("seat", 0))[5], (("d", ("seat", 0)), ("zz", ("seat", 1))))
        raises(self, "NoName(name='zz')", with_home, bare, "zz", ("seat", 0))
        both = put(1, (("a", ("x", 0, 0), ()),))
        self.assertEqual(names_in(both), ("a", "b", "d"))


class ShapedTest(unittest.TestCase):

    def test_what_is_shaped(self):
        for rng, source, made in some(82, 40):
            self.assertIs(call(self, is_shaped, made), True)
            self.assertIs(is_shaped(list(made)), False)
        odd = [
            MADE, ((), (), ((),), (), (), (), ()), put(2, (("zz", "zz"), ("a",), ())), put(3, (("q", "q", 10 ** 40),)),
            put(0, (("zz", ((), (), (), (), ("q", 10 ** 40))),)), put(4, (("q", ((), ("u", "v"), ("w",))),)),
            put(5, (("q", ("cells", 10 ** 40, 0, 10 ** 40)), ("r", ("seat", 10 ** 40)))), put(6, (("q", "q"), ("q", "r"), ("r", "q"))),
            put(1, (("a", ("x", 10 ** 40, 0), ("q", ("r", ("s", ("t", 0), ()), ()), ())),)),
        ]
        for made in odd:
            self.assertIs(is_shaped(made), True, made)

    def test_what_is_not(self):
        wrong = [
            MADE[:6], (*MADE, ()), put(0, (("b", ()), ("a", ()))), put(0, (("a", ()), ("a", ((),)))), put(0, (("a", (("b",),)),)),
            put(0, (("a", (("b", -1),)),)), put(0, (("a", (("b", 0, 0, 0),)),)), put(0, (("a",),)), put(0, (("A", ()),)),
            put(0, (("a", (("c", (), ("b", True)),)),)), put(1, (("m", ("x", 1), ()),)), put(1, (("m", ("x", 1, -1), ()),)),
            put(1, (("n", ("x", 1, 0), ()), ("m", ("x", 1, 0), ()))), put(1, (("m", ("x", 1, 0)),)), put(2, ()),
            put(2, (("a",), ("b",), ("d",), ("m", "n"))), put(2, (("a", ""),)), put(2, ("a",)), put(2, (["a"],)),
            put(3, (("a", "b", 1), ("a", "b", 0))), put(3, (("a", "b", 0), ("a", "b", 0))), put(3, (("a", "b", -1),)),
            put(3, (("a", "b"),)), put(3, (("a", "b", "0"),)), put(4, (("a", (("c",), ())),)), put(4, (("a", ((), ())),)),
            put(4, (("a", (("d", "c"),)),)), put(4, (("a", ("c",)),)), put(4, (("b", ()), ("a", ()))), put(5, (("a", ("seat", -1)),)),
            put(5, (("a", ("seat",)),)), put(5, (("a", ("cells", 0, 0, 0)),)), put(5, (("a", ("cells", 1, 1)),)),
            put(5, (("a", ("seat", 1, 1, 1)),)), put(5, (("a", ("cells", 1)),)), put(5, (("a", ("cells", 2, -1, 1)),)),
            put(5, (("a", ("cells", 2, 1, -1)),)), put(5, (("a", ("room", 1)),)), put(6, (("b", "a"), ("a", "b"))),
            put(6, (("a", "b"), ("a", "b"))), put(6, (("a",),)), put(6, (("a", "b", "c"),)), put(6, (("a", "B"),)),
        ]
        for thing in wrong:
            self.assertIs(is_shaped(thing), False, thing)
            self.assertIs(is_made(SOURCE, thing), False, thing)

    def test_variants(self):
        for thing in thing_variants(MADE):
            if is_shaped(thing):
                # Told by the text: it is read again just as it was written.
                self.assertEqual(repr(made_from(made_text(thing))), repr(thing))

    def test_odd_things(self):
        check_things(self, is_shaped, (), lambda thing: False)
        check_things(self, is_made, (SOURCE,), lambda thing: False)
        for at in range(7):
            for thing in ODD_THINGS:
                found = put(at, thing)
                self.assertIs(is_shaped(found) and made_from(made_text(found)) != found, False, found)
        for at in (0, 1, 3, 4, 5, 6):
            self.assertIs(is_shaped(put(at, ())), True)
            self.assertIs(is_shaped(put(at, [])), False)


def parts_of(tree):
    """The TREE and all within it."""
    return [tree] + ([part for side in tree[1:] for part in parts_of(side)] if len(tree) == 3 else [])


def faults_by_hand(source, thing):
    """The pairs, word by word, as [13] says them."""
    steps, moves, rows, waits, masks, homes, order = thing
    statements = {name: reads for name, _, _, reads in source[0]}
    asked, names = {guard[0] for _, guard, _, _ in source[0] if guard}, {part[0] for part in steps + moves}
    found = {("names", name) for name, _ in steps if name not in statements} | {("names", part[0]) for part in moves if part[0] in statements}
    trees = [(name, tree) for name, every in steps for tree in every] + [(name, tree) for name, _, tree in moves]
    for name, tree in trees:
        for part in parts_of(tree):
            if len(part) == 2 and part[0] not in names or len(part) == 3 and part[0] not in asked:
                found.add(("trees", name))
    found |= {("trees", name) for name, every in steps if name in statements and len(every) != len(statements[name])}
    standing = [name for row in rows for name in row]
    found |= {("rows", name) for name in names if standing.count(name) != 1} | {("rows", name) for name in standing if name not in names}
    found |= {("waits", name) for wait in waits for name in wait[:2] if name not in names}
    for word, pairs in (("masks", masks), ("homes", homes)):
        found |= {(word, name) for name in names ^ {name for name, _ in pairs}}
    found |= {("masks", name) for name, mask in masks for conditions in mask if not set(conditions) <= asked}
    found |= {("homes", name) for name, home in homes if home[0] == "seat" and name in [part[0] for part in moves]}
    boxes = {name: home[1:] for name, home in homes if home[0] == "cells"}
    for name, (cells, multiplier, shift) in boxes.items():
        # The first turns and the ends of the rounds tell for all turns.
        turns = [*range(0, 3000), 999999 // cells * cells - 1, 999999 // cells * cells, 999998, 999999]
        if any(turn - cells * (turn * multiplier >> shift) != turn % cells for turn in turns if turn >= 0):
            found.add(("numbers", name))
    found |= {("order", name) for pair in order for name in pair if name not in boxes}
    found |= {("order", name) for pair in order for name in pair if comes_back(order, name)}
    reads = [(name, part[0]) for name, _, tree in moves for part in parts_of(tree) if len(part) == 2]
    found |= {("moves", name) for name, place, tree in moves if comes_back([pair for pair in reads if pair[1] in [part[0] for part in moves]], name)}
    found |= {("moves", name) for name, place, tree in moves if place[1] == 0 and () in parts_of(tree)}
    return sorted(found)


def comes_back(pairs, name):
    """Whether pairs lead from the name to itself."""
    found = {high for low, high in pairs if low == name}
    for _ in pairs:
        found |= {high for low, high in pairs if low in found}
    return name in found


class FaultsTest(unittest.TestCase):

    def test_each_word_alone(self):
        deep = ("c", ("c", (), ("q", 0)), ())
        for thing, expected in [
            (MADE, []),
            (put(0, MADE[0][:2] + (("zz", (("a", 2),)),)), [("homes", "d"), ("homes", "zz"), ("masks", "d"), ("masks", "zz"), ("names", "zz"), ("rows", "d"), ("rows", "zz")]),
            (put(1, (("a", ("x", 1, 0), ()), *MADE[1])), [("names", "a")]),
            (put(0, (("a", ()), ("b", (("q", 0), ())), MADE[0][2])), [("trees", "b")]),
            (put(0, (("a", ()), ("b", (deep, ())), MADE[0][2])), [("trees", "b")]),
            (put(0, (("a", ()), ("b", (("e", (), ()), ())), MADE[0][2])), [("trees", "b")]),
            (put(0, (("a", ()), ("b", (("c", ("c", ("e", (), ()), ()), ()), ())), MADE[0][2])), [("trees", "b")]),
            (put(0, (("a", ((),)), MADE[0][1], ("d", ()))), [("trees", "a"), ("trees", "d")]),
            (put(1, (("m", ("x", 1, 0), ("q", 0)), MADE[1][1])), [("trees", "m")]),
            (put(2, (("a", "n", "a"), ("m", "b"), ("zz",))), [("rows", "a"), ("rows", "d"), ("rows", "zz")]),
            (put(3, (("q", "a", 0), ("r", "s", 1))), [("waits", "q"), ("waits", "r"), ("waits", "s")]),
            (put(4, MADE[4][1:] + (("zz", ()),)), [("masks", "a"), ("masks", "zz")]),
            (put(4, (("a", ((), ("c", "e"))),) + MADE[4][1:]), [("masks", "a")]),
            (put(4, (("a", (("e",),)),) + MADE[4][1:]), [("masks", "a")]),
            (put(5, MADE[5][:2] + MADE[5][3:] + (("zz", ("seat", 0)),)), [("homes", "d"), ("homes", "zz")]),
            (put(5, MADE[5][:4] + (("n", ("seat", 0)),)), [("homes", "n"), ("order", "n")]),
            (put(6, (), put(5, MADE[5][:4] + (("n", ("seat", 0)),))), [("homes", "n")]),
            (put(5, MADE[5][:4] + (("n", ("cells", 3, 11, 5)),)), [("numbers", "n")]),
            (put(5, MADE[5][:4] + (("n", ("cells", 3, 10 ** 40, 10 ** 40)),)), [("numbers", "n")]),
            (put(5, MADE[5][:4] + (("n", ("cells", 10 ** 6, 0, 10 ** 40)),)), []),
            (put(6, (("a", "b"), ("zz", "a"))), [("order", "b"), ("order", "zz")]),
            (put(6, (("a", "m"), ("m", "a"), ("m", "n"))), [("order", "a"), ("order", "m")]),
            (put(6, (("a", "a"), ("a", "m"))), [("order", "a")]),
            (put(1, (("m", ("x", 1, 0), ("m", 1)), MADE[1][1])), [("moves", "m")]),
            (put(1, (("m", ("x", 1, 0), ("n", 1)), ("n", ("x", 1, 0), ("c", ("a", 0), ("m", 0))))), [("moves", "m"), ("moves", "n")]),
            (put(1, (("m", ("x", 1, 0), ("n", 1)), ("n", ("x", 1, 0), ("c", ("a", 0), ("n", 2))))), [("moves", "n")]),
            (put(1, (("m", ("x", 0, 0), ("n", 0)), ("n", ("x", 0, 3), ("c", ("a", 0), ())))), [("moves", "n")]),
            (put(1, (("m", ("x", 0, 0), ("n", 0)), ("n", ("x", 0, 3), ("c", ("a", 0), ("a", 1))))), []),
        ]:
            self.assertEqual(call(self, form_faults, SOURCE, thing), expected, thing)
            self.assertEqual(faults_by_hand(SOURCE, thing), expected, thing)
            self.assertIs(call(self, is_made, SOURCE, thing), expected == [])

    def test_beside_the_words(self):
        found = {}
        for rng, source, made in some(83, 150):
            other = random_made(rng, even_source(rng))
            thing = tuple(rng.choice([made, made, other])[at] for at in range(7))
            for pairs in faults_by_hand(source, thing):
                found[pairs[0]] = found.get(pairs[0], 0) + 1
            self.assertEqual(call(self, form_faults, source, thing), faults_by_hand(source, thing))
            self.assertIs(is_made(source, thing), faults_by_hand(source, thing) == [])
            self.assertIs(is_made(source, made), True)
        self.assertEqual(sorted(found), ["homes", "masks", "names", "order", "rows", "trees", "waits"])

    def test_beside_the_words_in_moves(self):
        rng, found = dice(84), []
        for _ in range(200):
            names = ("a", "b", "d", "m", "n", "q")
            moves = tuple((name, ("x", rng.randint(0, 1), 0), random_tree(rng, ("c", "c", "e"), names, 2)) for name in "mno")
            thing = put(1, moves)
            self.assertEqual(form_faults(SOURCE, thing), faults_by_hand(SOURCE, thing))
            found.extend(pair for pair in form_faults(SOURCE, thing) if pair[0] == "moves")
        self.assertGreater(len(found), 100)


class PlainTest(unittest.TestCase):

    def test_part_by_part(self):
        rng, uneven, great = dice(85), 0, 0
        for _ in range(400):
            source = random_source(rng) if rng.random() < 0.5 else even_source(rng, 4, "xy", (0, 1), 5)
            if uneven_arrays(source):
                uneven += 1
                raises(self, f"NotEven(array={uneven_arrays(source)[0]!r})", plain_made, source)
                continue
            made = call(self, plain_made, source)
            self.assertIs(is_made(source, made), True)
            row, names = statement_names(source), sorted(statement_names(source))
            self.assertEqual(made[:4], (flow(source), (), (row,), ()))
            every = all_conditions(source)
            self.assertEqual(made[4], tuple((name, tuple(part for part in every if acts(source, name, part))) for name in names))
            for name, home in made[5]:
                needs = [
                    (0 if reader == name else gap((row,), (), reader, name)) + leaf[1]
                    for reader, trees in flow(source) for tree in trees for leaf in leaves(tree) if leaf and leaf[0] == name
                ]
                great += max(needs, default=0) > 2
                self.assertEqual(home, buffer(max([1, *needs])))
            self.assertEqual([name for name, _ in made[5]], names)
            self.assertEqual(made[6], tuple(zip(names, names[1:])))
        self.assertGreater(min(uneven, great), 10, (uneven, great))


class TextTest(unittest.TestCase):

    def test_there_and_back(self):
        self.assertEqual((call(self, made_text, MADE), call(self, made_from, TEXT)), (TEXT, MADE))
        for rng, source, made in some(86, 100):
            self.assertEqual(call(self, made_from, call(self, made_text, made)), made)
        empty = ((), (), ((),), (), (), (), ())
        self.assertEqual((made_text(empty), made_from("- | - | - | - | - | - | -")), ("- | - | - | - | - | - | -", empty))
        odd = put(2, ((), ()), put(4, (("q", ((), ("u", "v"), ("w",))),)))
        self.assertEqual(made_text(odd).split(" | ")[2:5:2], ["-; -", "q -, u v, w"])
        self.assertEqual(made_from(made_text(odd)), odd)

    def test_deep_trees_and_great_numbers(self):
        depth = 115
        text = " ".join(["a?"] * depth + ["-"] * (depth + 1))
        made = made_from(f"a {text} | - | a | - | a | a {10 ** 39} 0 {10 ** 39} | -")
        self.assertEqual(len(text), 3 * depth + 2 * depth + 1)
        self.assertEqual(made_text(made), f"a {text} | - | a | - | a | a {10 ** 39} 0 {10 ** 39} | -")
        self.assertEqual(form_faults(SOURCE, made), [("trees", "a")])

    def test_wrong_parts(self):
        parts = TEXT.split(" | ")
        wrong = {
            0: ["", "b; a", "a; a", "a ", "a  -", "a -,", "a -,-", "a - -", "a c? -", "a b", "a b.0.0", "a b.01", "A", "a;b", "a; ", "-; a", "a b.0,b.0"],
            1: ["", "m", "m x.1.0", "m x.1 -", "m x.1.0 ", "m x.1.0 - -", "m x.1.0 -, -", "n x.1.0 -; m x.1.0 -", "m x.1.00 -", "m  x.1.0 -"],
            2: ["", "a  b", "a; ", "a -", "-; -; -; -", "a; b; d; m n", "a;b", "a, b", "A"],
            3: ["", "a b", "a b 0 0", "a b -1", "a b 01", "a b 1; a b 0", "a b 0; a b 0", "a b +1", "a b 0;", "a - 0"],
            4: ["", "a ", "a -,", "a c, -", "a -, -", "a c d, c", "a d c", "b; a", "a; a", "a  -", "a c,d"],
            5: ["", "a", "a ", "a 1 1", "a 0 1 1", "a 1 1 1 1", "a -1", "a 01", "b 0; a 0", "a 0; a 1", "a seat 0", "a 1  1 0"],
            6: ["", "a", "a b c", "a  b", "a b; a b", "b a; a b", "a b;", "a -", "a B"],
        }
        for at, texts in wrong.items():
            for text in texts:
                raises(self, f"BadText(piece={at})", made_from, " | ".join([*parts[:at], text, *parts[at + 1:]]))
                raises(self, f"BadText(piece={at})", made_from, " | ".join([*parts[:at], text, *["??"] * 9]))
                raises(self, f"BadText(piece={at})", made_from, " | ".join([*parts[:at], text]))

    def test_fewer_and_more_parts(self):
        parts = TEXT.split(" | ")
        for many in range(1, 7):
            raises(self, f"BadText(piece={many})", made_from, " | ".join(parts[:many]))
        for more in (["-"], ["", "?"], parts):
            raises(self, "BadText(piece=7)", made_from, " | ".join(parts + more))
        for text in ("", " ", "|", "a|-", " | ", "\n", "a\n", "\u00e9", "a | "):
            raises(self, f"BadText(piece={1 if text == 'a | ' else 0})", made_from, text)
        raises(self, "BadText(piece=6)", made_from, TEXT + "\n")
        raises(self, "BadText(piece=3)", made_from, TEXT.replace("a b 0", "a b \u0660"))


class ExamplesTest(unittest.TestCase):

    def test_examples(self):
        check_examples(self, EXAMPLES, names_for("mades"))
        self.assertTrue(mades.__doc__)


if __name__ == "__main__":
    unittest.main()
