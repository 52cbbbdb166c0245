"""A desk [27]: each request, done and refused, and long texts beside a Board and the functions themselves."""

import unittest

from builtahead.board import Board
from builtahead.desk import answers
from builtahead.errors import MadeError
from builtahead.hands import least_gap
from builtahead.lastword import first_fault
from builtahead.mades import plain_made
from builtahead.meets import is_even
from builtahead.sources import source_from, source_text
from builtahead.texts import names_text
from tests.tools import call, check_examples, dice, names_for, outcome, random_source, told_error
from tests.worlds import even_source

EXAMPLES = r"""
    >>> answers("plain one a - x.0.0 p.1.0; b* - y.1.0 x.0.0\nahead one b a\nseat one a 0\nnopair one a b\nseat one a 0\nright\nexchange one 0 0\nrows one\nright\nundo\nright")
    ['done', '1', 'refused NotMade', 'done', 'done', 'one', 'done', 'b a', '-', 'done', 'one']
    >>> answers("names\nplain one a")
    raises BadLine(number=1)
"""

SOURCE = "a - x.0.0 p.1.0; b* - y.1.0 x.0.0"
PLAIN = f"plain one {SOURCE}"
UNEVEN = "a - x.1.0; b* - y.1.0 x.2.0"
# By the first word: how many NAMEs, and then numbers, stand behind it.
FORMS = {
    "drop": (1, 0), "rename": (2, 0), "undo": (0, 0), "wait": (3, 1), "nowait": (3, 1), "exchange": (1, 2), "shift": (2, 2), "seat": (2, 1),
    "pair": (3, 0), "nopair": (3, 0), "names": (0, 0), "right": (0, 0), "text": (1, 0), "rows": (1, 0), "ahead": (3, 0), "fault": (1, 0),
}


def answer_by_hand(board, line):
    """The answer to a line, from the table of [27]."""
    word, *told = line.split(" ")
    numbers = [int(part) if part.isdigit() else part for part in told]
    edits = {
        "wait": ("put wait", *numbers[1:]), "nowait": ("drop wait", *numbers[1:]), "exchange": ("exchange", *numbers[1:]),
        "shift": ("move", *numbers[1:]), "pair": ("put pair", *numbers[1:]), "nopair": ("drop pair", *numbers[1:]),
    }
    try:
        if word == "plain":
            source = source_from(" ".join(told[1:]))
            if told[0] in board:
                return "refused Known"
            board.put(told[0], source, plain_made(source))
        elif word in ("drop", "rename", "undo"):
            getattr(board, word)(*told)
        elif word in edits:
            board.edit(told[0], edits[word])
        elif word == "seat":
            board.edit(told[0], ("home", told[1], ("seat", numbers[2])))
        elif word in ("names", "right"):
            return names_text(board.names if word == "names" else board.right())
        elif word == "text":
            return source_text(board[told[0]][0])
        elif word == "rows":
            return "; ".join(names_text(row) for row in board[told[0]][1][2])
        elif word == "ahead":
            distance = least_gap(board[told[0]][1], *told[1:])
            return "none" if distance is None else str(distance)
        else:
            fault = first_fault(*board[told[0]])
            return "none" if fault is None else fault[0]
    except MadeError as error:
        return "refused " + told_error(error).partition("(")[0]
    return "done"


class RequestTest(unittest.TestCase):

    def check(self, lines, expected):
        self.assertEqual(call(self, answers, "\n".join(lines)), expected)
        board = Board()
        self.assertEqual([answer_by_hand(board, line) for line in lines], expected)

    def test_nothing_asked(self):
        self.assertEqual(call(self, answers, ""), [])
        first, second = answers(""), answers("")
        self.assertIsNot(first, second)

    def test_plain(self):
        self.check(
            ["names", PLAIN, "names", PLAIN, f"plain two {UNEVEN}", f"plain one {UNEVEN}", "names", "plain two z - z.1.0", "names", "right", "text one", "text two", "undo", "undo", "undo", "names"],
            ["-", "done", "one", "refused Known", "refused NotEven", "refused Known", "one", "done", "one two", "one two", SOURCE, "z - z.1.0", "done", "done", "refused NothingDone", "-"],
        )

    def test_deeds(self):
        self.check(
            ["drop one", "rename one two", "undo", PLAIN, "rename two one", "rename one one", "rename one two", "names", "drop one", "drop two", "names", "undo", "names", "undo", "undo", "undo"],
            ["refused NoMade", "refused NoMade", "refused NothingDone", "done", "refused NoMade", "refused Known", "done", "two", "refused NoMade", "done", "-", "done", "two", "done", "done", "refused NothingDone"],
        )

    def test_waits(self):
        self.check(
            ["wait one a b 0", PLAIN, "wait one a z 0", "wait one z a 0", "shift one b 0 0", "ahead one a b", "ahead one b a", "wait one a b 0", "right", "fault one", "nowait one a b 0", "nowait one a b 7", "nowait one q a 0", "wait one b a 0", "fault one"],
            ["refused NoMade", "done", "refused NoName", "refused NoName", "done", "1", "0", "done", "-", "stuck", "done", "done", "refused NoName", "done", "late"],
        )

    def test_rows(self):
        self.check(
            ["rows one", PLAIN, "rows one", "exchange one 0 0", "rows one", "exchange one 1 0", "exchange one 0 1", "shift one a 0 0", "rows one", "shift one a 1 0", "shift one a 0 2", "shift one z 0 0", "shift two a 0 0", "exchange two 0 0", "undo", "undo", "rows one"],
            ["refused NoMade", "done", "a b", "done", "b a", "refused NoNumber", "refused NoNumber", "done", "a b", "refused NoNumber", "refused NoNumber", "refused NoName", "refused NoMade", "refused NoMade", "done", "done", "a b"],
        )

    def test_homes_and_order(self):
        self.check(
            ["seat one a 0", PLAIN, "seat one a 0", "seat one z 0", "nopair one a b", "nopair one a b", "nopair one a z", "seat one a 7", "pair one a b", "seat one b 7", "right", "fault one", "undo", "undo", "pair one a b", "pair one b a", "pair one z a", "pair two a b", "nopair two a b", "seat two a 0"],
            ["refused NoMade", "done", "refused NotMade", "refused NoName", "done", "done", "refused NoName", "done", "refused NotMade", "done", "one", "none", "done", "done", "done", "refused NotMade", "refused NoName", "refused NoMade", "refused NoMade", "refused NoMade"],
        )

    def test_questions(self):
        self.check(
            ["text one", "ahead one a b", "fault one", "right", PLAIN, "plain b c - c.1.0; d* - d.1.0 c.1.1", "ahead one a b", "ahead one b a", "ahead one a a", "ahead one a z", "ahead one z y", "fault one", "right", "exchange one 0 0", "fault one", "right", "rows one", "text one", "nopair b c d", "nopair b c d", "fault b"],
            ["refused NoMade", "refused NoMade", "refused NoMade", "-", "done", "done", "0", "1", "1", "refused NoName", "refused NoName", "none", "b one", "done", "late", "b", "b a", SOURCE, "done", "done", "none"],
        )

    def test_ahead_in_one_hand(self):
        rng = dice(220)
        for _ in range(20):
            source = even_source(rng, 3)
            names = [statement[0] for statement in source[0]]
            lines = [f"plain one {source_text(source)}"] + [f"ahead one {one} {other}" for one in names for other in names]
            distances = [str(int(names.index(one) >= names.index(other))) for one in names for other in names]
            self.assertEqual(answers("\n".join(lines)), ["done", *distances])

    def test_conditions_and_guards(self):
        text = "load -big x.1.2 p.1.0 x.1.0; add* +big s.0.0 s.0.0 x.1.0"
        self.assertEqual(call(self, answers, f"plain one {text}\ntext one\nright\nfault one\nrows one"), ["done", text, "one", "none", "load add"])


class LinesTest(unittest.TestCase):

    def bad(self, number, *lines):
        for text in ("\n".join(lines),):
            self.assertEqual(outcome(answers, text), f"raises BadLine(number={number})", text)
            self.assertEqual(outcome(answers, text=text), f"raises BadLine(number={number})", text)

    def test_empty_lines(self):
        self.bad(0, "", "")
        self.bad(1, "names", "")
        self.bad(0, "", "names")
        self.bad(1, "names", "", "names")
        self.bad(2, "names", "names", "")
        self.bad(0, " ")

    def test_blanks_and_signs(self):
        for line in [" names", "names ", "names  ", "Names", "name", "drop  one", "drop one ", " drop one", "drop\tone", "names\r", "names;", "nämes", "names -"]:
            self.bad(0, line)
            self.bad(1, "names", line, "", "zz")

    def test_each_form(self):
        for word, (names, numbers) in FORMS.items():
            told = ["one", "a", "b"][:names] + ["0", "12"][:numbers]
            right = " ".join([word, *told])
            answer = answers(right)
            self.assertEqual(len(answer), 1)
            self.assertEqual(answers(right), [answer_by_hand(Board(), right)])
            self.bad(0, right + " one")
            self.bad(0, right + " 0")
            self.bad(0, right + " ")
            self.bad(0, right.upper())
            self.bad(0, right.replace(" ", "  ", 1) if told else right + "  ")
            for at in range(len(told)):
                self.bad(0, " ".join([word, *told[:at], *told[at + 1:]]))
                kinds = ["0", "One", "", "abcdefghi", "one1", "a.b", "-"] if at < names else ["a", "00", "01", "-1", "+1", "1.0", "", "x0", "1_0", "\u0661", "\u00b2"]
                for part in kinds:
                    self.bad(0, " ".join([word, *told[:at], part, *told[at + 1:]]))

    def test_plain_forms(self):
        for rest in [
            "", " one", " one ", " one a", " One a - x.0.0", " a - x.0.0", " one  a - x.0.0", " one a - x.0.0 ", " one a - x.0.0;", " one a - x.0.0; ",
            " one a - x.0.0; a - y.0.0", " one a - x.0.00", " one a - x.0", " one a -- x.0.0", " one a + x.0.0", " one a** - x.0.0", " 1 a - x.0.0", "  a - x.0.0",
            " one " + "; ".join(f"{letter} - x.0.0" for letter in "abcdefghi"), " one " + "; ".join(f"{letter} +{letter} x.0.0" for letter in "abcde"),
            " one a - x.0.0 y.0.0 y.0.0 y.0.0 y.0.0",
        ]:
            self.bad(0, "plain" + rest)
            self.bad(1, PLAIN, "plain" + rest, "zz")

    def test_the_first_wrong_line_ahead_of_all_answers(self):
        self.bad(3, PLAIN, "right", "drop zz", "drop", "names x")
        self.bad(59, *["names"] * 59, "name")
        # What is refused is no wrong line.
        self.assertEqual(answers("drop zz\nundo"), ["refused NoMade", "refused NothingDone"])

    def test_a_new_board_each_time(self):
        self.assertEqual(answers(PLAIN), ["done"])
        self.assertEqual(answers(f"names\n{PLAIN}\nnames"), ["-", "done", "one"])
        once = answers("names")
        once.append("x")
        self.assertEqual(answers("names"), ["-"])

    def test_large_numbers(self):
        lines = [PLAIN, f"wait one a b {10 ** 30}", f"wait one b a {10 ** 39}", f"exchange one {10 ** 39} 0", f"shift one a 0 {10 ** 39}", "right", f"nowait one b a {10 ** 39}", "right"]
        self.assertEqual(answers("\n".join(lines)), ["done", "done", "done", "refused NoNumber", "refused NoNumber", "one", "done", "one"])


class LongTest(unittest.TestCase):

    def random_line(self, rng, names):
        """A request; many are refused."""
        name = rng.choice(["one", "one", "two", "x"])
        step = [rng.choice(names + ["zz"] * (rng.random() < 0.1)) for _ in range(2)]
        number = rng.choice([0, 0, 1, 2])
        kind = rng.choice([*FORMS, "plain", "plain", "exchange", "shift", "nopair", "nopair", "seat", "wait"])
        if kind == "plain":
            source = even_source(rng, 3) if rng.random() < 0.8 else random_source(rng, "xy", (0, 1, 2))
            return f"plain {name} {source_text(source)}"
        if kind in ("drop", "text", "rows", "fault"):
            kind = kind if kind != "drop" or rng.random() < 0.4 else "fault"
            return f"{kind} {name}"
        if kind == "rename":
            return f"rename {name} {rng.choice(['one', 'two', 'x'])}"
        if kind in ("undo", "names", "right"):
            return kind
        if kind in ("wait", "nowait"):
            return f"{kind} {name} {step[0]} {step[1]} {number}"
        if kind == "exchange":
            return f"exchange {name} {rng.choice([0, 0, 0, 1])} {number}"
        if kind == "shift":
            return f"shift {name} {step[0]} {rng.choice([0, 0, 0, 1])} {number}"
        if kind == "seat":
            return f"seat {name} {step[0]} {number}"
        return f"{kind} {name} {min(step)} {max(step)}"

    def test_beside_a_board(self):
        rng, counts = dice(221), {}
        for _ in range(60):
            lines = [f"plain one {source_text(even_source(rng, 3))}", f"plain two {source_text(even_source(rng, 3))}"]
            while len(lines) < 60:
                lines.append(self.random_line(rng, ["a", "b", "c", "d"]))
            board = Board()
            expected = [answer_by_hand(board, line) for line in lines]
            found = answers("\n".join(lines))
            self.assertEqual(found, expected, lines)
            self.assertEqual(answers(text="\n".join(lines)), found)
            for line, answer in zip(lines, found):
                word = line.split(" ")[0]
                key = (word, answer if answer.startswith("refused") else "done")
                counts[key] = counts.get(key, 0) + 1
        for key in [
            *((word, "done") for word in FORMS), ("plain", "done"), ("plain", "refused Known"), ("plain", "refused NotEven"),
            ("rename", "refused NoMade"), ("rename", "refused Known"), ("wait", "refused NoName"), ("exchange", "refused NoNumber"),
            ("shift", "refused NoNumber"), ("seat", "refused NotMade"), ("pair", "refused NotMade"), ("seat", "refused NoName"),
            ("ahead", "refused NoName"), ("drop", "refused NoMade"), ("text", "refused NoMade"), ("rows", "refused NoMade"), ("fault", "refused NoMade"),
        ]:
            self.assertGreater(counts.get(key, 0), 2, (key, counts))

    def test_source_texts_there_and_back(self):
        rng = dice(222)
        for _ in range(60):
            source = random_source(rng)
            text = source_text(source)
            found = answers(f"plain one {text}\ntext one")
            self.assertEqual(found, ["done", text] if is_even(source) else ["refused NotEven", "refused NoMade"])


class ExamplesTest(unittest.TestCase):

    def test_examples(self):
        check_examples(self, EXAMPLES, names_for("desk"))


if __name__ == "__main__":
    unittest.main()
