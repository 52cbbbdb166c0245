"""Buffers: where their cells lie by WIDTHS, and which of them may meet."""

from builtahead.errors import NoName
from builtahead.mades import home_of
from builtahead.shapes import are_named, is_order_part
from builtahead.values import is_natural
from builtahead.ways import led_to, ring_names


def buffers(made):
    """The ascending tuple of pairs (name, number of cells)."""
    return tuple([(name, home[1]) for name, home in made[5] if home[0] == "cells"])


def buffer_names(made):
    """The list of the names with buffers."""
    return [name for name, _ in buffers(made)]


def check_buffers(made, names):
    """Raises NoName for the first of these that is no name with a buffer."""
    known = buffer_names(made)
    for name in names:
        if name not in known:
            raise NoName(name)


def is_widths(made, thing):
    """Whether the thing is WIDTHS of the MADE."""
    if not are_named(thing, 2) or [name for name, _ in thing] != buffer_names(made):
        return False
    return all([is_natural(width) and width >= 1 for _, width in thing])


def is_order(made, thing):
    """Whether the thing is an ORDER of the MADE."""
    if not is_order_part(thing) or ring_names(thing) != ():
        return False
    known = buffer_names(made)
    return all([low in known and high in known for low, high in thing])


def is_chained(order, one, other):
    """Whether one pair or more lead from one to other, or back."""
    return other in led_to(order, one) or one in led_to(order, other)


def do_meet(homes, order, one, other):
    """As may_meet, by the dict of the homes."""
    home, other_home = homes[one], homes[other]
    if one == other or home == other_home and home[0] == "seat":
        return True
    return home[0] == other_home[0] == "cells" and not is_chained(order, one, other)


def may_meet(made, one, other):
    """Whether both have the same seat, or buffers that are not chained; True for a name and itself."""
    homes = {name: home_of(made, name) for name in (one, other)}
    return do_meet(homes, made[6], one, other)


def sizes_by(made, widths):
    """The dict of the sizes of the buffers."""
    cells = {name: many for name, many in buffers(made)}
    return {name: width * cells[name] for name, width in widths}


def bases_by(sizes, order):
    """The dict of the units at which buffers of these sizes begin by this order."""
    found = {name: 0 for name in sizes}
    # Without a ring all are right as soon as each pair was looked at once for each buffer.
    for _ in sizes:
        for low, high in order:
            found[high] = max(found[high], found[low] + sizes[low])
    return found


def bases(made, widths):
    """The ascending tuple of pairs (name, unit at which its buffer begins)."""
    found = bases_by(sizes_by(made, widths), made[6])
    return tuple([(name, found[name]) for name in sorted(found)])


def extent_by(sizes, order):
    """The greatest end of buffers of these sizes by this order, 0 without any."""
    found = bases_by(sizes, order)
    return max([found[name] + sizes[name] for name in found], default=0)


def extent(made, widths):
    """The greatest end of a buffer by the order of the MADE."""
    return extent_by(sizes_by(made, widths), made[6])


def cell_of_turn(made, name, turn):
    """The number of the cell of this turn."""
    return turn % dict(buffers(made))[name]


def cell_span(made, widths, one, turn):
    """The pair of the first unit of the cell of this turn, and of the first one behind it."""
    check_buffers(made, (one,))
    width = [many for name, many in widths if name == one][0]
    base = bases_by(sizes_by(made, widths), made[6])[one]
    first = base + width * cell_of_turn(made, one, turn)
    return first, first + width


def meeting_widths(made, one, turn, other, later):
    """WIDTHS by which the two cells have a unit in common; None if there are none, or one is other."""
    check_buffers(made, (one, other))
    if one == other or is_chained(made[6], one, other):
        return None
    narrow = [(name, 1) for name in buffer_names(made)]
    base = bases_by(sizes_by(made, narrow), made[6])
    # Neither of both lies below the other one, so their bases stay; both cells then end nearly at the same unit.
    many = abs(base[one] - base[other]) + 1
    wide = {
        one: (cell_of_turn(made, other, later) + 1) * many,
        other: (cell_of_turn(made, one, turn) + 1) * many,
    }
    return tuple([(name, wide.get(name, 1)) for name, _ in narrow])


def is_meeting_widths(made, one, turn, other, later, thing):
    """Whether the thing is WIDTHS by which the two cells have a unit in common; False if one is other."""
    check_buffers(made, (one, other))
    if one == other or not is_widths(made, thing):
        return False
    first, behind = cell_span(made, thing, one, turn)
    other_first, other_behind = cell_span(made, thing, other, later)
    return first < other_behind and other_first < behind
