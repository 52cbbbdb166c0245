"""What is MADE, by its parts: asking, changing, judging and writing it."""

from builtahead.errors import BadText, NoName
from builtahead.flows import all_conditions, flow, leaves
from builtahead.forms import MOST_TURNS, all_wrong
from builtahead.numbers import least_numbers
from builtahead.parts import part_texts, part_told
from builtahead.shapes import is_part, names_of
from builtahead.sources import acts, statement_names
from builtahead.values import set_of, tupled

PARTS = 7
BETWEEN_PARTS = " | "


def names_in(made):
    """The set of the names."""
    return names_of(made)


def check_name(made, name):
    """Raises NoName if it is none of the names."""
    if name not in names_of(made):
        raise NoName(name)


def trees_of(made, name):
    """The tuple of the TREES of this name, of a MOVE of its one."""
    check_name(made, name)
    steps = [trees for step, trees in made[0] if step == name]
    moves = [(tree,) for move, _, tree in made[1] if move == name]
    return tupled((steps + moves)[0])


def place_of_move(made, name):
    """The PLACE of a MOVE; None for a step."""
    check_name(made, name)
    for move, place, _ in made[1]:
        if move == name:
            return tupled(place)
    return None


def row_of(made, name):
    """The number of the hand of this name."""
    check_name(made, name)
    return [hand for hand, row in enumerate(made[2]) if name in row][0]


def told_of(pairs, name):
    """What the pair of this name tells."""
    return tupled([told for other, told in pairs if other == name][0])


def mask_of(made, name):
    """The mask of this name."""
    check_name(made, name)
    return told_of(made[4], name)


def is_done(made, name, conditions):
    """Whether this name is done by these CONDITIONS."""
    return tuple(conditions) in mask_of(made, name)


def home_of(made, name):
    """The home of this name."""
    check_name(made, name)
    return told_of(made[5], name)


def cells_of(made, name):
    """How many cells this name has; a seat is one."""
    home = home_of(made, name)
    return home[1] if home[0] == "cells" else 1


def with_part(made, at, part):
    """The MADE with this part at its place, from 0, another one."""
    parts = tupled(made)
    return (*parts[:at], part, *parts[at + 1:])


def with_rows(made, rows):
    """The MADE with these rows."""
    return with_part(made, 2, tupled(rows))


def with_waits(made, waits):
    """The MADE with these waits, in whatever order."""
    return with_part(made, 3, set_of(tupled(waits)))


def with_wait(made, one, other, gap):
    """The MADE with this wait besides its own ones."""
    return with_waits(made, [*made[3], (one, other, gap)])


def without_wait(made, one, other, gap):
    """The MADE without this wait."""
    return with_waits(made, [wait for wait in tupled(made)[3] if wait != (one, other, gap)])


def with_told(made, at, name, told):
    """The MADE with this in the pair of this name."""
    check_name(made, name)
    others = [pair for pair in tupled(made)[at] if pair[0] != name]
    return with_part(made, at, tuple(sorted([*others, (name, tupled(told))])))


def with_mask(made, name, mask):
    """The MADE with this mask of this name."""
    return with_told(made, 4, name, mask)


def with_home(made, name, home):
    """The MADE with this home of this name."""
    return with_told(made, 5, name, home)


def is_shaped(thing):
    """Whether the thing is built like a MADE, whatever NAMEs and numbers it has."""
    if not (type(thing) is tuple and len(thing) == PARTS):
        return False
    return all([is_part(at, part) for at, part in enumerate(thing)])


def form_faults(source, thing):
    """The ascending list of the pairs (word, name) that keep it from being MADE of the SOURCE."""
    return sorted(set(all_wrong(source, thing)))


def is_made(source, thing):
    """Whether the thing is MADE of the SOURCE."""
    return is_shaped(thing) and all_wrong(source, thing) == []


def cells_for_reads(steps, row, name):
    """How many cells the reads of these TREES need of this name, in the one row."""
    needs = [1]
    for reader, trees in steps:
        # What stands behind in the row is done anew a turn later.
        back = 1 if row.index(reader) > row.index(name) else 0
        for tree in trees:
            needs.extend([back + found[1] for found in leaves(tree) if found[:1] == (name,)])
    return max(needs)


def plain_home(steps, row, name):
    """The home of this name in a plain MADE."""
    cells = cells_for_reads(steps, row, name)
    return "cells", cells, *least_numbers(cells, MOST_TURNS)


def plain_made(source):
    """The MADE of one hand that does all STATEMENTS in their order, each in a buffer; raises NotEven."""
    steps = flow(source)
    row = statement_names(source)
    names = sorted(row)
    every = all_conditions(source)
    masks = [(name, tuple([conditions for conditions in every if acts(source, name, conditions)])) for name in names]
    homes = [(name, plain_home(steps, row, name)) for name in names]
    order = list(zip(names, names[1:]))
    return steps, (), (row,), (), tuple(masks), tuple(homes), tuple(order)


def made_text(made):
    """The text of a MADE."""
    return BETWEEN_PARTS.join(part_texts(made))


def made_from(text):
    """What is so written, shaped; raises BadText with the number of the first wrong part."""
    texts = text.split(BETWEEN_PARTS)
    found = []
    for at, piece in enumerate(texts[:PARTS]):
        part = part_told(at, piece)
        if not is_part(at, part):
            raise BadText(at)
        found.append(part)
    if len(texts) != PARTS:
        raise BadText(len(found))
    return tuple(found)
