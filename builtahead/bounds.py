"""Bounds of buffers: which of them must lie apart, and how few units they need by WIDTHS."""

from builtahead.buffers import buffer_names, extent_by, is_chained, is_order, sizes_by
from builtahead.hands import check_not_stuck
from builtahead.lastword import all_kept
from builtahead.programs import Program
from builtahead.values import set_of

# A kept read and a buffer that may write over it come to at most so many turns.
ROUND = 1


def all_bound(source, made):
    """As bound_pairs, of a MADE that is not stuck."""
    program, names = Program(made), buffer_names(made)
    found = []
    for conditions, (reader, _, writer, back) in all_kept(source, made):
        if writer not in names or not program.is_done(writer, conditions):
            continue
        for other in names:
            is_other = other != writer and program.is_done(other, conditions)
            if is_other and not program.is_within(reader, other, writer, back, ROUND):
                found.append((min(other, writer), max(other, writer)))
    return set_of(found)


def check_made(made):
    """Raises Stuck if the MADE is stuck."""
    check_not_stuck(made[2], made[3])


def bound_pairs(source, made):
    """The set of the pairs of buffers that are bound, the lesser name first; raises Stuck."""
    check_made(made)
    return all_bound(source, made)


def chains_all(order, pairs):
    """Whether the two of each of these pairs are chained by the order."""
    return all([is_chained(order, one, other) for one, other in pairs])


def is_enough_order(source, made, order):
    """Whether the two of each bound pair are chained by this ORDER; raises Stuck."""
    check_made(made)
    return chains_all(order, all_bound(source, made))


def floor_of(source, made, widths):
    """The greatest sum of the sizes of buffers each two of which are bound, 0 without any; raises Stuck."""
    check_made(made)
    sizes = sizes_by(made, widths)
    bound = {pair: True for pair in all_bound(source, made)}
    sets = [()]
    # Names come in ascending order, so the lesser one of two stands in the set already.
    for name in sorted(sizes):
        sets = sets + [(*part, name) for part in sets if all([(other, name) in bound for other in part])]
    return max([sum([sizes[name] for name in part]) for part in sets])


def turned(pairs, line):
    """The pairs, each with that name first that stands first in the line."""
    return set_of([
        (one, other) if line.index(one) < line.index(other) else (other, one) for one, other in pairs
    ])


def lines_of(names):
    """The list of all orders of these names."""
    lines = [()]
    for name in names:
        lines = [(*line[:at], name, *line[at:]) for line in lines for at in range(len(line) + 1)]
    return lines


def best_order(source, made, widths):
    """A pair (extent, ORDER) of an ORDER that is enough, the extent the least one."""
    sizes, pairs = sizes_by(made, widths), all_bound(source, made)
    # Each ORDER keeps to a line of all buffers, and the bound pairs alone, turned like it, need no more units.
    orders = set_of([turned(pairs, line) for line in lines_of(buffer_names(made))])
    return min([(extent_by(sizes, order), order) for order in orders])


def least_extent(source, made, widths):
    """The least extent of an ORDER that is enough; raises Stuck."""
    check_made(made)
    return best_order(source, made, widths)[0]


def least_order(source, made, widths):
    """An ORDER that is enough, with the least extent; raises Stuck."""
    check_made(made)
    return best_order(source, made, widths)[1]


def is_least_order(source, made, widths, thing):
    """Whether the thing is an ORDER that is enough, with the least extent; raises Stuck."""
    check_made(made)
    if not is_order(made, thing) or not chains_all(thing, all_bound(source, made)):
        return False
    return extent_by(sizes_by(made, widths), thing) == best_order(source, made, widths)[0]
