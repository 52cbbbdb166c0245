"""Texts of NAMEs, numbers, TREES and STORIES, and back."""

from builtahead.errors import BadText
from builtahead.values import is_name
from builtahead.words import name_and_number, number_in


def names_text(names):
    """The NAMEs one behind another, - without any."""
    return " ".join(names) if names else "-"


def numbers_text(numbers):
    """The numbers one behind another, - without any."""
    return " ".join([str(number) for number in numbers]) if numbers else "-"


def tree_text(tree):
    """The words of a TREE."""
    words, waiting = [], [tree]
    while waiting:
        part = waiting.pop()
        if len(part) == 3:
            condition, no, yes = part
            words.append(condition + "?")
            waiting.extend([yes, no])
        elif len(part) == 2:
            words.append(f"{part[0]}.{part[1]}")
        else:
            words.append("-")
    return " ".join(words)


def root_word(root):
    """The word of a ROOT."""
    if len(root) == 0:
        return "-"
    word, name, number = root
    sign = "." if word == "step" else ":"
    return f"{name}{sign}{number}"


def story_text(story):
    """The rows of a STORY, each as the words of its STEP and of its ROOTS."""
    rows = [[f"{name}.{turn}"] + [root_word(root) for root in roots] for name, turn, roots in story]
    return "; ".join([" ".join(row) for row in rows]) if rows else "-"


def pieces_in(text, sign):
    """The pieces of a text with this sign between two; none if it is - alone."""
    return [] if text == "-" else text.split(sign)


def all_told(found):
    """The tuple of what the pieces tell; raises BadText for the first that tells nothing."""
    if None in found:
        raise BadText(found.index(None))
    return tuple(found)


def names_told(text):
    """For each piece of a text of NAMEs its NAME, None where it is none."""
    return [piece if is_name(piece) else None for piece in pieces_in(text, " ")]


def names_from(text):
    """The tuple of the NAMEs that are so written."""
    return all_told(names_told(text))


def numbers_from(text):
    """The tuple of the numbers that are so written."""
    return all_told([number_in(piece) for piece in pieces_in(text, " ")])


def root_in(word):
    """The ROOT that a word tells; None if it is not so written."""
    if word == "-":
        return ()
    step, first = name_and_number(word, "."), name_and_number(word, ":")
    if step is not None:
        return "step", *step
    return None if first is None else ("first", *first)


def row_in(piece):
    """The row of a STORY that a piece tells; None if it is not so written."""
    words = piece.split(" ")
    step = name_and_number(words[0], ".")
    roots = [root_in(word) for word in words[1:]]
    if step is None or None in roots:
        return None
    return *step, tuple(roots)


def story_from(text):
    """The STORY that is so written."""
    rows = []
    for number, piece in enumerate(pieces_in(text, "; ")):
        row = row_in(piece)
        if row is None or (rows and row[:2] <= rows[-1][:2]):
            raise BadText(number)
        rows.append(row)
    return tuple(rows)


def leaf_in(piece):
    """The () or the leaf that a piece tells; None if it is not so written."""
    return () if piece == "-" else name_and_number(piece, ".")


def put_under(unfinished, tree):
    """Puts a TREE under the innermost unfinished triple; returns the whole TREE, None while it is not whole."""
    part = tree
    while unfinished:
        unfinished[-1].append(part)
        if len(unfinished[-1]) < 3:
            return None
        part = tuple(unfinished.pop())
    return part


def tree_told(text):
    """The pair of the TREE that is so written and None, or of None and the number of the first wrong piece."""
    pieces = text.split(" ")
    whole, unfinished = None, []
    for number, piece in enumerate(pieces):
        is_question = piece.endswith("?") and is_name(piece[:-1])
        found = leaf_in(piece)
        if whole is not None or (found is None and not is_question):
            return None, number
        if is_question:
            unfinished.append([piece[:-1]])
        else:
            whole = put_under(unfinished, found)
    return (None, len(pieces)) if whole is None else (whole, None)


def tree_from(text):
    """The TREE that is so written."""
    tree, wrong = tree_told(text)
    if wrong is not None:
        raise BadText(wrong)
    return tree
