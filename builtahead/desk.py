"""A desk: lines of requests about a board of MADES, and the answers to them."""

from builtahead.board import Board
from builtahead.errors import BadLine, BadText, Known, NoMade, NoName, NoNumber, NotEven, NothingDone, NotMade
from builtahead.hands import least_gap
from builtahead.lastword import first_fault
from builtahead.mades import plain_made
from builtahead.sources import source_from, source_text
from builtahead.texts import names_text
from builtahead.values import is_name
from builtahead.words import number_in

DONE = "done"
NONE = "none"


def do_plain(board, name, source):
    """Puts the plain MADE of this SOURCE on the Board."""
    # Known comes ahead of NotEven.
    if name in board:
        raise Known(name)
    board.put(name, source, plain_made(source))
    return DONE


def do_drop(board, name):
    """Takes a MADE away."""
    board.drop(name)
    return DONE


def do_rename(board, name, new):
    """Gives a MADE a new NAME."""
    board.rename(name, new)
    return DONE


def do_undo(board):
    """Undoes the last deed."""
    board.undo()
    return DONE


def do_wait(board, name, one, other, gap):
    """Puts a wait."""
    board.edit(name, ("put wait", one, other, gap))
    return DONE


def do_nowait(board, name, one, other, gap):
    """Drops a wait."""
    board.edit(name, ("drop wait", one, other, gap))
    return DONE


def do_exchange(board, name, hand, place):
    """Exchanges two names of a row."""
    board.edit(name, ("exchange", hand, place))
    return DONE


def do_shift(board, name, step, hand, place):
    """Takes a name out of its row and puts it into another one."""
    board.edit(name, ("move", step, hand, place))
    return DONE


def do_seat(board, name, step, number):
    """Gives a name this seat."""
    board.edit(name, ("home", step, ("seat", number)))
    return DONE


def do_pair(board, name, low, high):
    """Puts a pair of order."""
    board.edit(name, ("put pair", low, high))
    return DONE


def do_nopair(board, name, low, high):
    """Drops a pair of order."""
    board.edit(name, ("drop pair", low, high))
    return DONE


def tell_names(board):
    """The NAMES of the Board."""
    return names_text(board.names)


def tell_right(board):
    """The NAMES of the MADES that are right."""
    return names_text(board.right())


def tell_text(board, name):
    """The text of a SOURCE."""
    source, _ = board[name]
    return source_text(source)


def tell_rows(board, name):
    """The rows of a MADE."""
    _, made = board[name]
    return "; ".join([names_text(row) for row in made[2]])


def tell_ahead(board, name, one, other):
    """The distance from one to other."""
    _, made = board[name]
    distance = least_gap(made, one, other)
    return NONE if distance is None else str(distance)


def tell_fault(board, name):
    """The word of the first FAULT."""
    source, made = board[name]
    fault = first_fault(source, made)
    return NONE if fault is None else fault[0]


# By the first word of a line: what its other words are, n for a NAME, d for a number, s for a SOURCE.
FORMS = {
    "plain": "ns", "drop": "n", "rename": "nn", "undo": "", "wait": "nnnd", "nowait": "nnnd", "exchange": "ndd",
    "shift": "nndd", "seat": "nnd", "pair": "nnn", "nopair": "nnn", "names": "", "right": "", "text": "n",
    "rows": "n", "ahead": "nnn", "fault": "n",
}
ACTIONS = {
    "plain": do_plain, "drop": do_drop, "rename": do_rename, "undo": do_undo, "wait": do_wait, "nowait": do_nowait,
    "exchange": do_exchange, "shift": do_shift, "seat": do_seat, "pair": do_pair, "nopair": do_nopair,
    "names": tell_names, "right": tell_right, "text": tell_text, "rows": tell_rows, "ahead": tell_ahead,
    "fault": tell_fault,
}


def source_in(text):
    """The SOURCE with this text; None if it is not so written."""
    try:
        return source_from(text)
    except BadText:
        return None


def value_in(kind, text):
    """What a text of this kind tells; None if it is not so written."""
    if kind == "s":
        return source_in(text)
    if kind == "d":
        return number_in(text)
    return text if is_name(text) else None


def texts_in(line):
    """The list of the texts of a line: its words, but a SOURCE, behind the NAME, whole."""
    word, _, rest = line.partition(" ")
    if word != "plain":
        return line.split(" ")
    name, _, text = rest.partition(" ")
    return [word, name, text]


def request_in(line):
    """The tuple of the first word of a line and of what the others tell; None if it is not so written."""
    word, *texts = texts_in(line)
    form = FORMS.get(word)
    if form is None or len(form) != len(texts):
        return None
    told = [value_in(kind, text) for kind, text in zip(form, texts)]
    return None if None in told else (word, *told)


def done_or_told(board, request):
    """The answer to a request; raises what refuses it."""
    word, *told = request
    action = ACTIONS[word]
    return action(board, *told)


def refusal(board, request):
    """The answer to a request, also if it is refused."""
    try:
        return done_or_told(board, request)
    except NoMade:
        word = "NoMade"
    except Known:
        word = "Known"
    except NoName:
        word = "NoName"
    except NoNumber:
        word = "NoNumber"
    except NotMade:
        word = "NotMade"
    except NotEven:
        word = "NotEven"
    except NothingDone:
        word = "NothingDone"
    return "refused " + word


def answers(text):
    """The list of the answers to the lines of a text; raises BadLine for the first that is not so written."""
    lines = text.split("\n") if text else []
    requests = []
    for number, line in enumerate(lines):
        request = request_in(line)
        if request is None:
            raise BadLine(number)
        requests.append(request)
    board = Board()
    return [refusal(board, request) for request in requests]
