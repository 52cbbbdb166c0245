"""Two MADES: which of them needs no more units, seats, names and time than the other one."""

from math import gcd, lcm

from builtahead.buffers import buffers, extent_by, is_chained
from builtahead.hands import check_not_stuck
from builtahead.shapes import are_named, names_of
from builtahead.times import never_later
from builtahead.values import is_natural, set_of


def cells_by_name(made):
    """The dict of the numbers of cells of the buffers."""
    return {name: many for name, many in buffers(made)}


def lacks_buffer(one, other):
    """The first buffer of one that other has not; None if it has all."""
    cells = cells_by_name(other)
    missing = [name for name, _ in buffers(one) if name not in cells]
    return missing[0] if missing else None


def common_multiple(numbers):
    """The least number that all of these go into."""
    found = 1
    for number in numbers:
        found = lcm(found, number)
    return found


def odd_pairs(one, other, names):
    """The dict of the pairs of these names that are chained in one, and not in other."""
    pairs = [(low, high) for low in names for high in names if low < high]
    return {pair: True for pair in pairs if is_chained(one[6], *pair) and not is_chained(other[6], *pair)}


def odd_sets(one, other):
    """The list of pairs (sum, odd set), and the number by which each sum is divided for the share."""
    cells, known = cells_by_name(one), cells_by_name(other)
    names = [name for name in sorted(cells) if name in known]
    pairs, bottom = odd_pairs(one, other, names), common_multiple([known[name] for name in names])
    found = [(0, ())]
    for name in names:
        weight = cells[name] * (bottom // known[name])
        found = found + [
            (total + weight, (*part, name)) for total, part in found if all([(low, name) in pairs for low in part])
        ]
    return found, bottom


def greatest_share(one, other):
    """The pair of the greatest share and of the least odd set with it."""
    found, bottom = odd_sets(one, other)
    most = max([total for total, _ in found])
    common = gcd(most, bottom)
    return (most // common, bottom // common), min([part for total, part in found if total == most])


def peak_ratio(one, other):
    """The greatest share of an odd set; None if one has a buffer that other has not."""
    return None if lacks_buffer(one, other) is not None else greatest_share(one, other)[0]


def chain_of_buffers(one, other):
    """Of the odd sets with the greatest share the least; None if one has a buffer that other has not."""
    return None if lacks_buffer(one, other) is not None else greatest_share(one, other)[1]


def all_buffers(one, other):
    """The set of the names with a buffer in one or in other."""
    return set_of([name for name, _ in buffers(one) + buffers(other)])


def extent_of(made, widths):
    """The extent of the MADE by WIDTHS of its own buffers and maybe of others."""
    cells = cells_by_name(made)
    return extent_by({name: width * cells[name] for name, width in widths if name in cells}, made[6])


def wide_ones(one, other):
    """The dict of the widths above 1 by which the extent of one is greater; None if there are none."""
    lacking = lacks_buffer(one, other)
    cells = cells_by_name(other)
    # So many units are more than all buffers of other have that are not wide.
    many = sum([cells[name] for name in cells]) + 1
    if lacking is not None:
        return {lacking: many}
    (top, bottom), part = greatest_share(one, other)
    if top <= bottom:
        return None
    common = common_multiple([cells[name] for name in part])
    return {name: many * (common // cells[name]) for name in part}


def widths_apart(one, other):
    """WIDTHS by which the extent of one is greater; None if there are none."""
    wide = wide_ones(one, other)
    if wide is None:
        return None
    return tuple([(name, wide.get(name, 1)) for name in all_buffers(one, other)])


def is_widths_apart(one, other, thing):
    """Whether the thing is WIDTHS by which the extent of one is greater."""
    if not are_named(thing, 2) or tuple([name for name, _ in thing]) != all_buffers(one, other):
        return False
    if not all([is_natural(width) and width >= 1 for _, width in thing]):
        return False
    return extent_of(one, thing) > extent_of(other, thing)


def seats_in(made):
    """The set of the seats."""
    return set_of([home[1] for _, home in made[5] if home[0] == "seat"])


def is_as_good(made, other):
    """Whether the MADE is as good as the other one; none of both is stuck."""
    known = names_of(other)
    if not all([name in known for name in names_of(made)]) or widths_apart(made, other) is not None:
        return False
    return len(seats_in(made)) <= len(seats_in(other)) and never_later(made, other)


def is_better(made, other):
    """Whether the MADE is as good as the other one, and that one not as good as it."""
    return is_as_good(made, other) and not is_as_good(other, made)


def check_mades(mades):
    """Raises Stuck if there is a ring of sum 0 in one of the MADES."""
    for made in mades:
        check_not_stuck(made[2], made[3])


def is_beaten(one, other):
    """Whether other is as good as one, and one is not as good as other; raises Stuck."""
    check_mades((one, other))
    return is_better(other, one)


def unbeaten(mades):
    """The set of the places of those MADES that none of them beats; raises Stuck."""
    check_mades(mades)
    return tuple([at for at, made in enumerate(mades) if not any([is_better(other, made) for other in mades])])
