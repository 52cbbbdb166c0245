"""Rows: names taken out of them, put into them and exchanged."""

from builtahead.errors import NoNumber


def check_number(number, many):
    """Raises NoNumber if the number is not from 0 below so many."""
    if not 0 <= number < many:
        raise NoNumber(number)


def check_neighbours(rows, hand, place):
    """Raises NoNumber for a hand that is none, then for a place without a name or without one behind it."""
    check_number(hand, len(rows))
    check_number(place, len(rows[hand]) - 1)


def check_spot(rows, hand, place):
    """Raises NoNumber for a hand that is none, then for a place where no name can be put."""
    check_number(hand, len(rows))
    check_number(place, len(rows[hand]) + 1)


def spots(rows):
    """The list of the pairs (hand, place) where a name can be put, ascending."""
    return [(hand, place) for hand, row in enumerate(rows) for place in range(len(row) + 1)]


def neighbours(rows):
    """The list of the pairs (hand, place) of names with one behind them, ascending."""
    return [(hand, place) for hand, row in enumerate(rows) for place in range(len(row) - 1)]


def row_replaced(rows, hand, row):
    """The rows with this one for this hand."""
    return (*rows[:hand], tuple(row), *rows[hand + 1:])


def rows_without(rows, name):
    """The rows without this name."""
    return tuple([tuple([other for other in row if other != name]) for row in rows])


def rows_with(rows, hand, place, name):
    """The rows with this name more, that stands at this place then."""
    row = rows[hand]
    return row_replaced(rows, hand, [*row[:place], name, *row[place:]])


def rows_exchanged(rows, hand, place):
    """The rows in which the names at this place and behind it have changed places."""
    row = rows[hand]
    return row_replaced(rows, hand, [*row[:place], row[place + 1], row[place], *row[place + 2:]])


def rows_moved(rows, name, hand, place):
    """The rows in which this name was taken out and put where it stands at this place then."""
    return rows_with(rows_without(rows, name), hand, place, name)


def spot_of(rows, name):
    """The pair (hand, place) of this name."""
    return [(hand, row.index(name)) for hand, row in enumerate(rows) if name in row][0]
