"""Wants: what each read of a MADE must find, and from whom it does."""

from builtahead.flows import leaf
from builtahead.needs import needed_by
from builtahead.sources import cell_of, reads_of


def same_letters(one, other, turns):
    """Whether two PLACES have the same cells in all turns below this number."""
    # Cells go on evenly, so the first turn and the last one tell all.
    return turns == 0 or all([cell_of(one, turn) == cell_of(other, turn) for turn in (0, turns - 1)])


def first_wants(source, program, steps, conditions):
    """The list of the wants (name, number, wanted, place) of needed STATEMENTS that the MADE has."""
    trees = {name: found for name, found in steps}
    return [
        (name, number, leaf(tree, conditions), reads_of(source, name)[number])
        for name in needed_by(source, steps, conditions) if name in program.trees
        for number, tree in enumerate(trees[name])
    ]


def found_by(program, want, conditions):
    """What the read leads to by this want: (writer, d); () for the first letter, if it is right; None elsewhere."""
    name, number, wanted, place = want
    found = leaf(program.trees[name][number], conditions)
    if name in program.places and not same_letters(program.places[name], place, found[1] if found else 2):
        return None
    if found == () or wanted == ():
        is_right = found == wanted or (found != () and found[0] in program.places)
        return found if is_right else None
    kept, d = found
    root, distance = wanted
    if kept in program.places:
        return found if d <= distance else None
    if d != distance or not (kept == root or program.has_seat_of(root, kept)):
        return None
    return root, d


def want_of_move(want, found):
    """What a move wants to which this want leads."""
    _, _, wanted, (array, a, b) = want
    move, d = found
    rest = (wanted[0], wanted[1] - d) if wanted else ()
    return move, 0, rest, (array, a, b + a * d)


def all_wants(source, program, steps, conditions):
    """The list of pairs (want, what it leads to) of all reads, those of moves behind those that lead to them."""
    waiting = first_wants(source, program, steps, conditions)
    found = []
    while waiting:
        want = waiting.pop()
        lead = found_by(program, want, conditions)
        if (want, lead) not in found:
            found.append((want, lead))
            if lead and lead[0] in program.places:
                waiting.append(want_of_move(want, lead))
    return found


def kept_of(wants):
    """The list of (name, number, writer, d) of the wants that lead to a writer."""
    return [(name, number, *lead) for (name, number, _, _), lead in wants if lead]
