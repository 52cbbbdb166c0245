"""Shapes: how a MADE is built, part by part, whatever NAMEs and numbers it has."""

from builtahead.flows import leaf_names
from builtahead.sources import is_place
from builtahead.values import ascends, is_name, is_natural, is_set_of_names, set_of

MOST_HANDS = 3


def names_of(made):
    """The set of the names of steps and moves."""
    return set_of([step[0] for step in made[0]] + [move[0] for move in made[1]])


def are_tuples(thing, size):
    """Whether the thing is a tuple of tuples with so many parts each."""
    return type(thing) is tuple and all([type(part) is tuple and len(part) == size for part in thing])


def are_named(thing, size):
    """Whether the thing is such a tuple whose parts begin with unlike NAMEs, ascending."""
    if not (are_tuples(thing, size) and all([is_name(part[0]) for part in thing])):
        return False
    return ascends([part[0] for part in thing])


def is_any_tree(thing):
    """Whether the thing is a TREE whose leaves have any NAMEs."""
    names = leaf_names(thing)
    return names is not None and all([is_name(name) for name in names])


def are_trees(thing):
    """Whether the thing is a tuple of TREES."""
    return type(thing) is tuple and all([is_any_tree(tree) for tree in thing])


def is_steps_part(thing):
    """Whether the thing is built like steps."""
    return are_named(thing, 2) and all([are_trees(trees) for _, trees in thing])


def is_moves_part(thing):
    """Whether the thing is built like moves."""
    return are_named(thing, 3) and all([is_place(place) and is_any_tree(tree) for _, place, tree in thing])


def is_rows_part(thing):
    """Whether the thing is built like rows."""
    if not (type(thing) is tuple and 1 <= len(thing) <= MOST_HANDS):
        return False
    return all([type(row) is tuple and all([is_name(name) for name in row]) for row in thing])


def is_wait(thing):
    """Whether the triple is built like a wait."""
    first, later, number = thing
    return is_name(first) and is_name(later) and is_natural(number)


def is_waits_part(thing):
    """Whether the thing is built like waits."""
    return are_tuples(thing, 3) and all([is_wait(part) for part in thing]) and ascends(thing)


def is_mask(thing):
    """Whether the thing is a set of CONDITIONS, whatever NAMEs these have."""
    return type(thing) is tuple and all([is_set_of_names(part) for part in thing]) and ascends(thing)


def is_masks_part(thing):
    """Whether the thing is built like masks."""
    return are_named(thing, 2) and all([is_mask(mask) for _, mask in thing])


def is_home(thing):
    """Whether the thing is built like a home."""
    if not (type(thing) is tuple and len(thing) in (2, 4) and all([is_natural(part) for part in thing[1:]])):
        return False
    return thing[0] == "seat" if len(thing) == 2 else thing[0] == "cells" and thing[1] >= 1


def is_homes_part(thing):
    """Whether the thing is built like homes."""
    return are_named(thing, 2) and all([is_home(home) for _, home in thing])


def is_order_part(thing):
    """Whether the thing is built like order."""
    if not (are_tuples(thing, 2) and all([is_name(low) and is_name(high) for low, high in thing])):
        return False
    return ascends(thing)


def is_part(at, thing):
    """Whether the thing is built like the part of a MADE with this place, from 0."""
    checks = (
        is_steps_part, is_moves_part, is_rows_part, is_waits_part, is_masks_part, is_homes_part, is_order_part,
    )
    check = checks[at]
    return check(thing)
