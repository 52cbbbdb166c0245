"""Forms: what keeps a shaped thing from being MADE of a SOURCE, word by word."""

from builtahead.flows import all_conditions, asked_in, is_tree, leaf_names, parts_within
from builtahead.numbers import is_exact
from builtahead.shapes import names_of
from builtahead.sources import conditions_of, reads_of, statement_names
from builtahead.ways import ring_names

# Numbers of a buffer must tell the cells of all turns below this one.
MOST_TURNS = 1000000


def wrong_names(source, made):
    """The steps that are no STATEMENTS, and the moves that are."""
    known = statement_names(source)
    steps = [name for name, _ in made[0] if name not in known]
    return steps + [name for name, _, _ in made[1] if name in known]


def wrong_trees(source, made):
    """The names with a TREE that does not fit, and the steps with more or fewer of them than reads."""
    names, conditions = names_of(made), conditions_of(source)
    found = [(name, tree) for name, trees in made[0] for tree in trees]
    found = found + [(name, tree) for name, _, tree in made[1]]
    unfit = [
        name for name, tree in found
        if not is_tree(names, tree) or any([condition not in conditions for condition in asked_in(tree)])
    ]
    known = statement_names(source)
    return unfit + [name for name, trees in made[0] if name in known and len(trees) != len(reads_of(source, name))]


def wrong_in_rows(made):
    """The names that do not stand in the rows just once, and what stands there and is no name."""
    names = names_of(made)
    standing = [name for row in made[2] for name in row]
    missing = [name for name in names if standing.count(name) != 1]
    return missing + [name for name in standing if name not in names]


def wrong_in_waits(made):
    """What stands in a wait and is no name."""
    names = names_of(made)
    return [name for first, later, _ in made[3] for name in (first, later) if name not in names]


def unpaired(made, pairs):
    """The names without a pair, and those of pairs that are no names."""
    names, paired = names_of(made), [name for name, _ in pairs]
    return [name for name in names if name not in paired] + [name for name in paired if name not in names]


def wrong_masks(source, made):
    """As unpaired, and the names with CONDITIONS that the SOURCE has not."""
    every = all_conditions(source)
    strange = [name for name, mask in made[4] if any([conditions not in every for conditions in mask])]
    return unpaired(made, made[4]) + strange


def wrong_homes(made):
    """As unpaired, and the moves with a seat."""
    moves = [name for name, _, _ in made[1]]
    return unpaired(made, made[5]) + [name for name, home in made[5] if name in moves and home[0] == "seat"]


def wrong_numbers(made):
    """The names of the buffers whose numbers do not tell each cell."""
    boxes = [(name, home[1:]) for name, home in made[5] if home[0] == "cells"]
    return [name for name, numbers in boxes if not is_exact(*numbers, MOST_TURNS)]


def wrong_in_order(made):
    """What has no buffer and stands in the order, and what lies above itself."""
    boxes = [name for name, home in made[5] if home[0] == "cells"]
    strange = [name for pair in made[6] for name in pair if name not in boxes]
    return strange + list(ring_names(made[6]))


def wrong_moves(made):
    """The moves that read themselves, and those that hand on one letter for ever."""
    moves = [name for name, _, _ in made[1]]
    pairs = [(name, read) for name, _, tree in made[1] for read in leaf_names(tree) if read in moves]
    stopped = [name for name, place, tree in made[1] if place[1] == 0 and () in parts_within(tree)]
    return list(ring_names(pairs)) + stopped


def all_wrong(source, made):
    """The list of all pairs (word, name), some maybe twice."""
    found = {
        "names": wrong_names(source, made), "trees": wrong_trees(source, made), "rows": wrong_in_rows(made),
        "waits": wrong_in_waits(made), "masks": wrong_masks(source, made), "homes": wrong_homes(made),
        "numbers": wrong_numbers(made), "order": wrong_in_order(made), "moves": wrong_moves(made),
    }
    return [(word, name) for word in found for name in found[word]]
