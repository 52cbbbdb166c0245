"""Folds: how many cells the values of a name need for its reads, in all RUNS."""

from builtahead.buffers import buffer_names
from builtahead.forms import MOST_TURNS
from builtahead.hands import check_names, check_not_stuck, distances, holds_by, is_stuck
from builtahead.lastword import all_kept
from builtahead.mades import cells_of, with_part
from builtahead.numbers import least_numbers
from builtahead.shapes import names_of
from builtahead.values import set_of, tupled

MOST_CELLS = 16


def check_reads(rows, waits, name, reads):
    """Raises NoName for the name, then for the first reader, that stands in no row; then Stuck."""
    check_names(rows, [name] + [reader for reader, _ in reads])
    check_not_stuck(rows, waits)


def cells_needed(found, name, read):
    """How many cells of the name this read needs, by the distances found; None if no number is enough."""
    reader, back = read
    distance = 0 if reader == name else found.get((reader, name))
    return None if distance is None else distance + back


def fold_by(found, name, reads):
    """As fold, by the distances found."""
    needs = [cells_needed(found, name, read) for read in reads]
    return None if None in needs else max([1, *needs])


def lost_by(found, name, reads, many):
    """The set of the reads for which so many cells are not enough, by the distances found."""
    needs = [(cells_needed(found, name, read), read) for read in tupled(reads)]
    return set_of([read for cells, read in needs if cells is None or cells > many])


def fold(rows, waits, name, reads):
    """The least number of cells that is enough; None if none is; raises NoName, then Stuck."""
    check_reads(rows, waits, name, reads)
    return fold_by(distances(rows, waits), name, reads)


def is_enough(rows, waits, name, reads, many):
    """Whether so many cells are enough; raises NoName, then Stuck."""
    return lost_read(rows, waits, name, reads, many) is None


def lost_read(rows, waits, name, reads, many):
    """The least read for which so many cells are not enough; None if they are; raises NoName, then Stuck."""
    check_reads(rows, waits, name, reads)
    lost = lost_by(distances(rows, waits), name, reads, many)
    return lost[0] if lost else None


def waits_to_fold(rows, waits, name, reads, many):
    """The fewest more waits with just those RUNS in which so many cells are enough; None if there are none."""
    check_reads(rows, waits, name, reads)
    if any([back > many for _, back in reads]):
        return None
    own = list(tupled(waits))
    asked = set_of([(reader, name, many - back) for reader, back in reads if reader != name])
    if is_stuck(rows, own + list(asked)):
        return None
    # Without a ring of sum 0 no two of them can follow from each other: all that follow can go together.
    return tuple([
        wait for wait in asked
        if not holds_by(distances(rows, own + [other for other in asked if other != wait]), wait)
    ])


def reads_of_names(source, made):
    """The dict of the sets of pairs (reader, back) of the kept reads of which each name is the writer."""
    kept = [read for _, read in all_kept(source, made)]
    return {
        name: set_of([(reader, back) for reader, _, writer, back in kept if writer == name])
        for name in names_of(made)
    }


def reads_by(source, made, name):
    """The set of the pairs (reader, back) of the kept reads with this writer; raises NoName."""
    check_names(made[2], (name,))
    return reads_of_names(source, made)[name]


def least_cells(source, made):
    """The ascending tuple of pairs (name, FOLD) of the names with buffers; raises Stuck."""
    check_not_stuck(made[2], made[3])
    found, reads = distances(made[2], made[3]), reads_of_names(source, made)
    return tuple([(name, fold_by(found, name, reads[name])) for name in buffer_names(made)])


def too_few(source, made):
    """The set of the names whose cells are not enough; raises Stuck."""
    check_not_stuck(made[2], made[3])
    found, reads = distances(made[2], made[3]), reads_of_names(source, made)
    return tuple([name for name in names_of(made) if lost_by(found, name, reads[name], cells_of(made, name))])


def with_least_cells(source, made):
    """The MADE with just as many cells as needed; None if some buffer needs too many; raises Stuck."""
    needs = {name: many for name, many in least_cells(source, made)}
    if any([many is None or many > MOST_CELLS for many in needs.values()]):
        return None
    homes = [
        (name, ("cells", needs[name], *least_numbers(needs[name], MOST_TURNS)) if name in needs else home)
        for name, home in tupled(made)[5]
    ]
    return with_part(made, 5, tuple(homes))
