"""What is free: what can be changed in a MADE so that it is right then."""

from builtahead.buffers import check_buffers
from builtahead.folds import MOST_CELLS
from builtahead.forms import MOST_TURNS
from builtahead.lastword import is_made_right
from builtahead.mades import check_name, with_home, with_part, with_rows, with_wait, with_waits
from builtahead.numbers import least_numbers
from builtahead.rows import check_neighbours, neighbours, rows_exchanged, rows_moved, rows_without, spots
from builtahead.shapes import names_of
from builtahead.values import set_of, subsets, tupled
from builtahead.ways import pairs_without

MOST_SEATS = 8
# The numbers of a healing wait are below this one.
HEALING_TURNS = 3


def without(parts, gone):
    """The list of the parts but for those that go."""
    return [part for part in parts if part not in gone]


def can_go(source, made, waits):
    """Whether it does without these waits."""
    return is_made_right(source, with_waits(made, without(tupled(made)[3], tupled(waits))))


def free_waits(source, made):
    """The set of the waits each of which can go alone."""
    return set_of([wait for wait in tupled(made)[3] if can_go(source, made, (wait,))])


def fewest_waits(source, made):
    """Of the sets of waits with which alone it does those with the fewest, the least one; None without."""
    for _, kept in sorted([(len(part), part) for part in subsets(tupled(made)[3])]):
        if is_made_right(source, with_waits(made, kept)):
            return kept
    return None


def does_with_order(source, made, pairs):
    """Whether it does with these pairs as its order."""
    return is_made_right(source, with_part(made, 6, set_of(pairs)))


def free_order(source, made):
    """The set of the pairs of the order each of which can go alone."""
    order = tupled(made)[6]
    return tuple([pair for pair in order if does_with_order(source, made, without(order, [pair]))])


def turnable(source, made):
    """The set of the pairs of the order each of which alone can be turned about."""
    order = tupled(made)[6]
    return tuple([
        (low, high) for low, high in order
        if does_with_order(source, made, [*without(order, [(low, high)]), (high, low)])
    ])


def seats_for(source, made, name):
    """The set of the numbers of seats with which as home of the name it does; raises NoName."""
    check_name(made, name)
    bare = with_part(made, 6, pairs_without(tupled(made)[6], name))
    return tuple([
        number for number in range(MOST_SEATS)
        if is_made_right(source, with_home(bare, name, ("seat", number)))
    ])


def cells_for(source, made, name):
    """The least number of cells of the name with which it does; None without; raises NoName."""
    check_buffers(made, (name,))
    for many in range(1, MOST_CELLS + 1):
        if is_made_right(source, with_home(made, name, ("cells", many, *least_numbers(many, MOST_TURNS)))):
            return many
    return None


def spots_for(source, made, name):
    """The set of the pairs (hand, place) with the name at which it does; raises NoName."""
    check_name(made, name)
    rows = tupled(made)[2]
    return tuple([
        (hand, place) for hand, place in spots(rows_without(rows, name))
        if is_made_right(source, with_rows(made, rows_moved(rows, name, hand, place)))
    ])


def exchanged(made, hand, place):
    """The MADE in which the names at this place and behind it have changed places."""
    return with_rows(made, rows_exchanged(tupled(made)[2], hand, place))


def swaps(source, made):
    """The set of the pairs (hand, place) whose name can be exchanged with the next one."""
    return tuple([
        (hand, place) for hand, place in neighbours(made[2])
        if is_made_right(source, exchanged(made, hand, place))
    ])


def healing_wait(source, made, hand, place):
    """The least wait with which it does if these two are exchanged; () if without; None if with none."""
    check_neighbours(made[2], hand, place)
    other = exchanged(made, hand, place)
    if is_made_right(source, other):
        return ()
    names = names_of(made)
    waits = [(first, later, number) for first in names for later in names for number in range(HEALING_TURNS)]
    for first, later, number in waits:
        if is_made_right(source, with_wait(other, first, later, number)):
            return first, later, number
    return None
