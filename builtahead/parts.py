"""Texts of the parts of a MADE, and back."""

from builtahead.texts import names_text, names_told, numbers_text, pieces_in, tree_text, tree_told
from builtahead.words import number_in, place_in, place_word

BETWEEN_PIECES = "; "
BETWEEN_SETS = ", "


def joined_pieces(pieces):
    """The text of these pieces, - without any."""
    return BETWEEN_PIECES.join(pieces) if pieces else "-"


def piece_with(name, words):
    """The piece of a name and of the words of its TREES or sets; without any it stands alone."""
    return f"{name} {BETWEEN_SETS.join(words)}" if words else name


def home_text(home):
    """The numbers of a home."""
    return numbers_text(home[1:])


def part_texts(made):
    """The list of the texts of the seven parts."""
    steps, moves, rows, waits, masks, homes, order = made
    return [
        joined_pieces([piece_with(name, [tree_text(tree) for tree in trees]) for name, trees in steps]),
        joined_pieces([f"{name} {place_word(place)} {tree_text(tree)}" for name, place, tree in moves]),
        joined_pieces([names_text(row) for row in rows]),
        joined_pieces([f"{first} {later} {number}" for first, later, number in waits]),
        joined_pieces([piece_with(name, [names_text(part) for part in mask]) for name, mask in masks]),
        joined_pieces([f"{name} {home_text(home)}" for name, home in homes]),
        joined_pieces([f"{low} {high}" for low, high in order]),
    ]


def name_and_rest(piece):
    """The name with which a piece begins, and the list of the texts behind it."""
    name, blank, rest = piece.partition(" ")
    return name, rest.split(BETWEEN_SETS) if blank else []


def step_in(piece):
    """The step that a piece tells."""
    name, texts = name_and_rest(piece)
    return name, tuple([tree_told(text)[0] for text in texts])


def move_in(piece):
    """The MOVE that a piece tells."""
    name, _, rest = piece.partition(" ")
    place, _, tree = rest.partition(" ")
    return name, place_in(place), tree_told(tree)[0]


def row_in(piece):
    """The row that a piece tells."""
    return tuple(names_told(piece))


def wait_in(piece):
    """The wait that a piece tells."""
    words = piece.split(" ")
    return (*words[:-1], number_in(words[-1]))


def mask_in(piece):
    """The pair of a name and its mask that a piece tells."""
    name, texts = name_and_rest(piece)
    return name, tuple([tuple(names_told(text)) for text in texts])


def home_in(piece):
    """The pair of a name and its home that a piece tells."""
    name, *words = piece.split(" ")
    word = "seat" if len(words) == 1 else "cells"
    return name, (word, *[number_in(text) for text in words])


def pair_in(piece):
    """The pair of names that a piece tells."""
    return tuple(piece.split(" "))


def part_told(at, text):
    """What the text of the part with this place, from 0, tells; a wrong text tells what is not built like this part."""
    readers = (step_in, move_in, row_in, wait_in, mask_in, home_in, pair_in)
    reader = readers[at]
    # A row without names is written just as no pieces are.
    pieces = text.split(BETWEEN_PIECES) if at == 2 else pieces_in(text, BETWEEN_PIECES)
    return tuple([reader(piece) for piece in pieces])
