"""Moves: the MOVES through which reads go, taken out and put in."""

from builtahead.buffers import buffer_names
from builtahead.errors import Known, NoName, NoNumber
from builtahead.flows import later_tree, leaf, parts_within
from builtahead.hands import check_not_stuck, is_stuck, row_arrows
from builtahead.lastword import is_made_right
from builtahead.mades import mask_of, place_of_move, trees_of
from builtahead.rows import check_spot, rows_with, rows_without, spots
from builtahead.shapes import names_of
from builtahead.sources import reads_of, statement_names
from builtahead.values import set_of, subsets, tupled
from builtahead.ways import pairs_without


def move_names(made):
    """The list of the names of the MOVES."""
    return [name for name, _, _ in made[1]]


def tree_at(made, name, read):
    """The TREE of this read; raises NoName, then NoNumber."""
    trees = trees_of(made, name)
    if not 0 <= read < len(trees):
        raise NoNumber(read)
    return trees[read]


def chain(made, name, read, conditions):
    """The tuple of the pairs (name, distance) through which this read goes; raises NoName, then NoNumber."""
    found = leaf(tree_at(made, name, read), conditions)
    onward = {move: tree for move, _, tree in made[1]}
    pairs, total = [], 0
    while found:
        kept, d = found
        total = total + d
        pairs.append((kept, total))
        found = leaf(onward[kept], conditions) if kept in onward else ()
    return tuple(pairs)


def leads_to(made, name, read, conditions):
    """The last pair of the chain, if it names a step; otherwise (); raises NoName, then NoNumber."""
    pairs = chain(made, name, read, conditions)
    return pairs[-1] if pairs and pairs[-1][0] not in move_names(made) else ()


def least_waits(waits):
    """The set of the least of these waits between each two names."""
    least = {}
    for first, later, number in waits:
        least[(first, later)] = min(number, least.get((first, later), number))
    return set_of([(first, later, least[(first, later)]) for first, later in least])


def tree_without(tree, name, other):
    """The TREE with the other one, so much farther, in the place of each leaf of this name."""
    if len(tree) == 3:
        condition, no, yes = tree
        return condition, tree_without(no, name, other), tree_without(yes, name, other)
    return later_tree(other, tree[1]) if tree and tree[0] == name else tree


def waits_without(rows, waits, name):
    """The waits without this name, the arrows to it and from it put together."""
    marked = [(wait, False) for wait in waits] + [(arrow, True) for arrow in row_arrows(rows)]
    into = [(first, number, near) for (first, later, number), near in marked if later == name and first != name]
    onward = [(later, number, near) for (first, later, number), near in marked if first == name and later != name]
    found = [wait for wait in waits if name not in wait[:2]]
    for first, number, near in into:
        for later, more, is_near in onward:
            # Two neighbours in a row are neighbours again; a name is done behind itself a turn later anyway.
            if not (near and is_near) and (first != later or number + more == 0):
                found.append((first, later, number + more))
    return least_waits(found)


def passed(made, name):
    """The MADE without this MOVE; raises NoName if it is none."""
    steps, moves, rows, waits, masks, homes, order = tupled(made)
    trees = {move: tree for move, _, tree in moves}
    if name not in trees:
        raise NoName(name)
    own = trees[name]
    return (
        tuple([(step, tuple([tree_without(tree, name, own) for tree in found])) for step, found in steps]),
        tuple([(move, place, tree_without(tree, name, own)) for move, place, tree in moves if move != name]),
        tuple([row for row in rows_without(rows, name) if row] or [()]),
        waits_without(rows, waits, name),
        tuple([pair for pair in masks if pair[0] != name]),
        tuple([pair for pair in homes if pair[0] != name]),
        pairs_without(order, name),
    )


def waits_around(tree, reader, move):
    """The waits of a MOVE with this TREE that is put in for this reader."""
    found = [part for part in parts_within(tree) if len(part) == 2]
    return [(name, move, d) for name, d in found] + [(move, reader, 0)]


def with_leaf(made, reader, read, move):
    """The steps and moves of the MADE in which this read has the leaf (move, 0)."""
    steps, moves = tupled(made)[:2]
    found = []
    for name, trees in steps:
        if name == reader:
            trees = (*trees[:read], (move, 0), *trees[read + 1:])
        found.append((name, trees))
    changed = [(name, place, (move, 0) if name == reader else tree) for name, place, tree in moves]
    return tuple(found), changed


def place_read(source, made, reader, read):
    """The PLACE of this read, of a MOVE its own one."""
    own = place_of_move(made, reader)
    return reads_of(source, reader)[read] if own is None else own


def put_in(source, made, reader, read, move, hand, place, home):
    """The MADE with a MOVE more, through which this read goes; raises NoName, NoNumber, Known, NoNumber, Stuck."""
    tree = tree_at(made, reader, read)
    if move in statement_names(source) or move in names_of(made):
        raise Known(move)
    rows, waits, masks, homes, order = tupled(made)[2:]
    check_spot(rows, hand, place)
    standing = rows_with(rows, hand, place, move)
    kept = least_waits([*waits, *waits_around(tree, reader, move)])
    check_not_stuck(standing, kept)
    steps, moves = with_leaf(made, reader, read, move)
    return (
        steps, tuple(sorted([*moves, (move, place_read(source, made, reader, read), tree)])), standing, kept,
        tuple(sorted([*masks, (move, mask_of(made, reader))])), tuple(sorted([*homes, (move, tupled(home))])),
        set_of([*order, *[(low, move) for low in buffer_names(made)]]),
    )


def places_for(source, made, reader, read):
    """The set of the pairs (hand, place) where a MOVE for this read makes no ring; raises NoName, then NoNumber."""
    tree = tree_at(made, reader, read)
    rows, waits = tupled(made)[2:4]
    # No name is so written, so it is none that is there already.
    move = ""
    more = [*waits, *waits_around(tree, reader, move)]
    return tuple([
        (hand, place) for hand, place in spots(rows) if not is_stuck(rows_with(rows, hand, place, move), more)
    ])


def all_passed(made, names):
    """The MADE without these MOVES."""
    for name in names:
        made = passed(made, name)
    return made


def needless_moves(source, made):
    """The set of the MOVES without each of which alone it is a MADE, and right."""
    return tuple([name for name in move_names(made) if is_made_right(source, passed(made, name))])


def fewest_moves(source, made):
    """Of the sets of MOVES with which alone it is a MADE, and right, the least with the fewest; None without."""
    names = move_names(made)
    for _, kept in sorted([(len(part), part) for part in subsets(names)]):
        if is_made_right(source, all_passed(tupled(made), [name for name in names if name not in kept])):
            return kept
    return None
