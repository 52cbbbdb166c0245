"""Numbers: the cell of a turn, worked out by a multiplier and a shift."""

from builtahead.values import set_of


def worked_out(turn, cells, multiplier, shift):
    """What the machine works out for the cell of a turn, exact or not."""
    return turn - cells * ((turn * multiplier) >> shift)


def ceiling(top, bottom):
    """The least number that is not below top divided by bottom."""
    return -(-top // bottom)


def first_inexact(cells, multiplier, shift):
    """The least turn for which it is not exact; None if there is none."""
    product = cells * multiplier
    # Told by its bits, as 2 to a great shift would not fit.
    if product.bit_length() <= shift:
        return cells
    whole = 1 << shift
    excess = product - whole
    if excess == 0:
        return None
    # Each round of all cells adds the excess, and the last cell of a round is the first one to go wrong.
    rounds = max(0, ceiling(whole - (cells - 1) * multiplier, excess))
    rest = max(0, ceiling(whole - rounds * excess, multiplier))
    return rounds * cells + rest


def is_exact(cells, multiplier, shift, bound):
    """Whether it is exact for all turns from 0 below the bound."""
    first = first_inexact(cells, multiplier, shift)
    return first is None or first >= bound


def corners(cells, bound):
    """The set of the turns that tell whether it is exact below the bound."""
    if bound < 2:
        return ()
    if cells < bound:
        return set_of([cells, bound // cells * cells - 1])
    return (bound - 1,)


def multipliers(cells, shift, bound):
    """The pair of the least and the greatest multiplier that are exact below the bound; None if there is none."""
    turns = corners(cells, bound)
    least = max([ceiling((turn // cells) << shift, turn) for turn in turns], default=0)
    greatest = min([(((turn // cells + 1) << shift) - 1) // turn for turn in turns], default=0)
    return (least, greatest) if least <= greatest else None


def least_numbers(cells, bound):
    """The pair (multiplier, shift) that is exact below the bound, with the least shift, then the least multiplier."""
    shift = 0
    found = multipliers(cells, shift, bound)
    while found is None:
        shift += 1
        found = multipliers(cells, shift, bound)
    return found[0], shift
