"""A board [26], beside a dict and a list of what it held."""

import copy
import unittest

from builtahead.board import Board
from builtahead.edits import Watch
from builtahead.lastword import is_right
from builtahead.mades import is_made, made_from, plain_made, with_home, with_wait, with_waits
from builtahead.sources import source_from
from tests.test_edits import edited_by_hand, random_edit
from tests.tools import ODD_THINGS, check_examples, dice, has_list, listed, names_for, outcome
from tests.worlds import even_source, random_made, safe_made

EXAMPLES = """
    >>> source = ((("a", (), ("x", 1, 0), ()), ("b", (), ("y", 1, 0), (("x", 1, 0),))), ("b",))
    >>> made, board = made_from("a; b a.0 | - | a; b | a b 0; b a 2 | a -; b - | a 2 1 1; b 0 | -"), Board()
    >>> board.put("two", source, made), board.put("one", source, made), board.edit("one", ("drop wait", "b", "a", 2)), board.right(), board.alike("two"), board.in_seat(0), board.deeds
    (None, None, None, ('two',), ('one',), (('one', 'b'), ('two', 'b')), 3)
    >>> board.undo(), board.right(), board.rename("two", "x"), board.names, board.undo(), board.undo(), board.names, board.deeds
    (None, ('one', 'two'), None, ('one', 'x'), None, None, ('two',), 1)
    >>> board.edit("two", ("mask", "c", ()))
    raises NoName(name='c')
"""

SOURCE = source_from("a - x.1.0; b* - y.1.0 x.1.0")
MADE = made_from("a; b a.0 | - | a; b | a b 0; b a 2 | a -; b - | a 2 1 1; b 0 | -")
WRONG = with_home(MADE, "a", ("cells", 2, 1, 0))
UNEVEN = source_from("a - x.1.0; b* - y.1.0 x.2.0")
OTHER = source_from("b* - y.1.0")
DROP = ("drop wait", "b", "a", 2)


def state(board):
    """All that a Board tells."""
    pairs = {name: board[name] for name in board.names}
    return board.names, board.deeds, len(board), pairs


def filled(*names):
    """A Board with these NAMES, all with the same pair."""
    board = Board()
    for name in names:
        board.put(name, SOURCE, MADE)
    return board


class DeedsTest(unittest.TestCase):

    def test_an_empty_board(self):
        board = Board()
        self.assertEqual((board.names, board.deeds, len(board), "a" in board, board.right(), board.of_source(SOURCE), board.in_seat(0)), ((), 0, 0, False, (), (), ()))
        self.assertEqual(outcome(board.undo), "raises NothingDone()")
        self.assertEqual(board, Board())
        self.assertIsNot(board, Board())

    def test_errors_in_their_order_change_nothing(self):
        board = filled("one", "two")
        board.put("bad", UNEVEN, MADE)
        before = state(board)
        for function, args, error in [
            (board.put, ("one", SOURCE, WRONG), "Known(name='one')"), (board.put, ("one", SOURCE, MADE), "Known(name='one')"),
            (board.put, ("new", SOURCE, WRONG), "NotMade()"), (board.put, ("new", OTHER, MADE), "NotMade()"),
            (board.drop, ("new",), "NoMade(name='new')"), (board.rename, ("new", "one"), "NoMade(name='new')"),
            (board.rename, ("new", "new"), "NoMade(name='new')"), (board.rename, ("one", "two"), "Known(name='two')"),
            (board.rename, ("one", "one"), "Known(name='one')"), (board.edit, ("new", ("mask", "z", ())), "NoMade(name='new')"),
            (board.edit, ("one", ("mask", "z", ())), "NoName(name='z')"), (board.edit, ("one", ("put wait", "a", "y", 0)), "NoName(name='y')"),
            (board.edit, ("one", ("exchange", 2, 0)), "NoNumber(number=2)"), (board.edit, ("one", ("exchange", 1, 0)), "NoNumber(number=0)"),
            (board.edit, ("one", ("put pair", "a", "b")), "NotMade()"), (board.alike, ("new",), "NoMade(name='new')"),
            (board.__getitem__, ("new",), "NoMade(name='new')"), (board.__getitem__, ("",), "NoMade(name='')"), (board.right, (), "NotEven(array='x')"),
        ]:
            self.assertEqual(outcome(function, *args), "raises " + error, args)
            self.assertEqual(outcome(function, *listed(list(args))), "raises " + error, args)
            self.assertEqual(state(board), before)

    def test_each_deed_and_its_undo(self):
        board = Board()
        states = [state(board)]
        loose = with_waits(MADE, (("a", "b", 0),))
        for deed, args, pairs in [
            (board.put, ("one", SOURCE, MADE), {"one": (SOURCE, MADE)}),
            (board.put, ("b", UNEVEN, MADE), {"one": (SOURCE, MADE), "b": (UNEVEN, MADE)}),
            (board.rename, ("b", "z"), {"one": (SOURCE, MADE), "z": (UNEVEN, MADE)}),
            (board.edit, ("one", DROP), {"one": (SOURCE, loose), "z": (UNEVEN, MADE)}),
            (board.edit, ("one", DROP), {"one": (SOURCE, loose), "z": (UNEVEN, MADE)}),
            (board.drop, ("z",), {"one": (SOURCE, loose)}),
            (board.put, ("z", SOURCE, MADE), {"one": (SOURCE, loose), "z": (SOURCE, MADE)}),
            (board.drop, ("one",), {"z": (SOURCE, MADE)}), (board.rename, ("z", "one"), {"one": (SOURCE, MADE)}), (board.drop, ("one",), {}),
        ]:
            self.assertIsNone(deed(*args))
            self.assertEqual(state(board), (tuple(sorted(pairs)), len(states), len(pairs), pairs))
            states.append(state(board))
        while len(states) > 1:
            self.assertEqual(state(board), states.pop())
            self.assertIsNone(board.undo())
        self.assertEqual((state(board), board), (states[0], Board()))
        self.assertEqual(outcome(board.undo), "raises NothingDone()")
        self.assertEqual(state(board), states[0])

    def test_an_undo_is_no_deed(self):
        board = filled("one", "two")
        board.undo()
        self.assertEqual((board.names, board.deeds), (("one",), 1))
        board.undo()
        self.assertEqual(((board.names, board.deeds), outcome(board.undo)), (((), 0), "raises NothingDone()"))
        board.put("two", SOURCE, MADE)
        board.drop("two")
        board.undo()
        self.assertEqual((board.names, board.deeds), (("two",), 1))

    def test_beside_a_dict(self):
        counts = {}
        rng = dice(210)
        for _ in range(40):
            sources = [even_source(rng, 3) for _ in range(2)]
            board, past, pairs = Board(), [], {}
            names = ["a", "b", "c", "one", "two", "x", "y", "zz"]
            for _ in range(60):
                name, new, kind = rng.choice(names), rng.choice(names), rng.random()
                expected, after = "returns None", dict(pairs)
                if kind < 0.3:
                    word, source = "put", rng.choice(sources)
                    made = rng.choice([random_made, safe_made])(rng, source)
                    source = source if rng.random() < 0.8 else rng.choice(sources)
                    after[name] = (source, made)
                    expected = f"raises Known(name={name!r})" if name in pairs else expected if is_made(source, made) else "raises NotMade()"
                    args = (name, source, made)
                elif kind < 0.4:
                    word, args = "drop", (name,)
                    expected = expected if after.pop(name, None) else f"raises NoMade(name={name!r})"
                elif kind < 0.5:
                    word, args = "rename", (name, new)
                    expected = f"raises NoMade(name={name!r})" if name not in pairs else f"raises Known(name={new!r})" if new in pairs else expected
                    after = {new if other == name else other: pairs[other] for other in pairs}
                elif kind < 0.85:
                    word = "edit"
                    edit = random_edit(rng, *pairs[name]) if name in pairs else DROP
                    found = edited_by_hand(*pairs[name], edit) if name in pairs else f"raises NoMade(name={name!r})"
                    expected, after[name] = (found, None) if isinstance(found, str) else (expected, (pairs[name][0], found))
                    args = (name, edit)
                else:
                    word, args = "undo", ()
                    expected = expected if past else "raises NothingDone()"
                    after = past[-1] if past else pairs
                args = [listed(part) for part in args] if rng.random() < 0.3 else args
                kept = copy.deepcopy(args)
                self.assertEqual(outcome(getattr(board, word), *args), expected, (word, args))
                self.assertEqual(repr(args), repr(kept))
                counts[word, expected[:14]] = counts.get((word, expected[:14]), 0) + 1
                if expected == "returns None":
                    past = past[:-1] if word == "undo" else [*past, pairs]
                    pairs = after
                self.assertEqual(state(board), (tuple(sorted(pairs)), len(past), len(pairs), pairs))
                self.check_questions(rng, board, pairs, sources)
            twin = board.twin()
            while board.deeds:
                board.undo()
            self.assertEqual((board, twin.names, twin.deeds), (Board(), tuple(sorted(pairs)), 0))
        self.assertGreater(min(counts.values()), 4, counts)
        self.assertEqual(len(counts), 15, counts)

    def check_questions(self, rng, board, pairs, sources):
        self.assertEqual(board.right(), tuple(name for name in sorted(pairs) if is_right(*pairs[name])))
        for source in sources:
            expected = tuple(name for name in sorted(pairs) if pairs[name][0] == source)
            self.assertEqual((board.of_source(source), board.of_source(listed(source))), (expected, expected))
        number = rng.randint(0, 3)
        expected = tuple((name, part) for name in sorted(pairs) for part, home in pairs[name][1][5] if home == ("seat", number))
        self.assertEqual(board.in_seat(number), expected)
        for name in pairs:
            source, made = pairs[name]
            alike = tuple(
                other for other in sorted(pairs)
                if other != name and pairs[other][0] == source and with_waits(pairs[other][1], ()) == with_waits(made, ())
            )
            self.assertEqual(board.alike(name), alike)
            self.assertEqual((name in board, board[name]), (True, pairs[name]))
        self.assertFalse(has_list((board.names, board.right(), board.in_seat(0), *[board[name] for name in pairs])))


class QuestionsTest(unittest.TestCase):

    def test_by_names_and_with_lists(self):
        board = Board()
        source, made, edit = listed(SOURCE), listed(MADE), ["home", "b", ["seat", 5]]
        self.assertIsNone(board.put(name="one", source=source, made=made))
        self.assertIsNone(board.edit(name="one", edit=edit))
        self.assertIsNone(board.rename(name="one", new="two"))
        self.assertEqual((source, made, edit), (listed(SOURCE), listed(MADE), ["home", "b", ["seat", 5]]))
        source[0].clear()
        made[5].clear()
        edit[2].clear()
        self.assertEqual(board["two"], (SOURCE, with_home(MADE, "b", ("seat", 5))))
        self.assertEqual((board.of_source(source=listed(SOURCE)), board.in_seat(number=5), board.alike(name="two")), (("two",), (("two", "b"),), ()))
        self.assertIsNone(board.drop(name="two"))
        self.assertEqual(board.deeds, 4)

    def test_alike(self):
        board = filled("one", "two")
        board.put("wait", SOURCE, with_wait(MADE, "b", "a", 1))
        board.put("seat", SOURCE, with_home(MADE, "b", ("seat", 1)))
        board.put("text", source_from("a - x.1.0; b* - y.1.0 x.1.0"), with_waits(MADE, ()))
        other = source_from("a - x.1.1; b* - y.1.0 x.1.1")
        board.put("source", other, MADE)
        self.assertEqual([board.alike(name) for name in ("one", "wait", "seat", "source")], [("text", "two", "wait"), ("one", "text", "two"), (), ()])
        self.assertEqual((board.of_source(SOURCE), board.of_source(other), board.of_source(OTHER)), (("one", "seat", "text", "two", "wait"), ("source",), ()))
        self.assertEqual((board.in_seat(1), board.in_seat(7), board.in_seat(10 ** 30)), ((("seat", "b"),), (), ()))

    def test_right_and_not_even(self):
        board = filled("two", "one")
        board.edit("one", DROP)
        self.assertEqual(board.right(), ("two",))
        board.put("zz", source_from("a - q.1.0; b* - y.1.0 q.2.0"), MADE)
        self.assertEqual(outcome(board.right), "raises NotEven(array='q')")
        board.put("a", UNEVEN, MADE)
        self.assertEqual(outcome(board.right), "raises NotEven(array='x')")
        board.undo()
        board.rename("zz", "b")
        self.assertEqual(outcome(board.right), "raises NotEven(array='q')")
        board.drop("b")
        self.assertEqual(board.right(), ("two",))

    def test_properties_without_setters(self):
        board = filled("one")
        for name in ("names", "deeds"):
            with self.assertRaises(AttributeError):
                setattr(board, name, ())
        with self.assertRaises(TypeError):
            board["one"] = (SOURCE, MADE)
        with self.assertRaises(TypeError):
            del board["one"]

    def test_not_iterable(self):
        for board in (Board(), filled("one", "two")):
            for function in (iter, list, tuple, sorted, set, lambda thing: [*thing], lambda thing: dict(thing), lambda thing: [part for part in thing]):
                with self.assertRaises(TypeError):
                    function(board)

    def test_in(self):
        board = filled("one", "two")
        self.assertEqual([name in board for name in ("one", "two", "on", "", "One")], [True, True, False, False, False])
        self.assertIs("one" in board, True)
        self.assertIs("one" not in board, False)

    def test_equal_and_twin(self):
        board = filled("one", "two")
        twin = board.twin()
        self.assertEqual((twin == board, twin != board, twin.deeds, board.deeds), (True, False, 0, 2))
        self.assertEqual(outcome(twin.undo), "raises NothingDone()")
        twin.drop("one")
        self.assertEqual((twin == board, board.names, twin.names), (False, ("one", "two"), ("two",)))
        board.edit("two", DROP)
        self.assertEqual(twin["two"], (SOURCE, MADE))
        twin.undo()
        board.undo()
        self.assertEqual(board, twin)
        self.assertEqual(filled("two", "one"), board)
        self.assertNotEqual(filled("one", "three"), board)
        self.assertNotEqual(filled("one"), board)
        other = filled("one")
        other.put("two", SOURCE, with_waits(MADE, ()))
        self.assertNotEqual(other, board)
        for thing in (*ODD_THINGS, {}, {"one": (SOURCE, MADE)}, Watch(SOURCE, MADE)):
            self.assertIs(board == thing, False)
            self.assertIs(board != thing, True)

    def test_eight_mades_and_sixty_deeds(self):
        board = Board()
        names = ["n" + letter for letter in "abcdefgh"]
        for name in names:
            board.put(name, SOURCE, plain_made(SOURCE))
        for number in range(52):
            board.edit(names[number % 8], ("put wait", "a", "b", number))
        self.assertEqual((len(board), board.deeds, board.right()), (8, 60, tuple(names)))
        for number in range(60, 0, -1):
            self.assertEqual(board.deeds, number)
            board.undo()
        self.assertEqual((len(board), board), (0, Board()))


class ExamplesTest(unittest.TestCase):

    def test_examples(self):
        check_examples(self, EXAMPLES, names_for("board"))


if __name__ == "__main__":
    unittest.main()
