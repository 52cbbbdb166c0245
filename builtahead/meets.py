"""Where PLACES meet, and who wrote what is read."""

from math import gcd

from builtahead.errors import NoName, NoNumber, NotEven
from builtahead.sources import acts, conditions_of, guard_holds, reads_of, statement_names
from builtahead.values import set_of, subsets, tupled


def inverse(number, modulus):
    """The number whose product with this one leaves 1 by the modulus, both without a common factor."""
    rest, other = number % modulus, modulus
    share, last = 1, 0
    while other:
        times = rest // other
        rest, other = other, rest - times * other
        share, last = last, share - times * last
    return share % modulus


def turn_with_cell(place, number):
    """The least turn in which the PLACE is the cell with this number; None if there is none."""
    _, a, b = place
    if a == 0:
        return 0 if b == number else None
    if number < b or (number - b) % a != 0:
        return None
    return (number - b) // a


def first_moving_touch(one, other):
    """As first_touch, for two PLACES of one array that both change from turn to turn."""
    _, a, b = one
    _, c, d = other
    common = gcd(a, c)
    if (d - b) % common != 0:
        return None
    step = c // common
    turn = ((d - b) // common) * inverse(a // common, step) % step
    # Turns of one that are too early would need a turn of the other below 0.
    missing = d - b - a * turn
    if missing > 0:
        turn = turn + step * (-(-missing // (a * step)))
    return turn, (a * turn + b - d) // c


def first_touch(one, other):
    """The least pair (turn of one, turn of other) with the same cell; None if there is none."""
    array, a, b = one
    if array != other[0]:
        return None
    if a == 0:
        turn = turn_with_cell(other, b)
        return None if turn is None else (0, turn)
    if other[1] == 0:
        turn = turn_with_cell(one, other[2])
        return None if turn is None else (turn, 0)
    return first_moving_touch(one, other)


def do_touch(one, other):
    """Whether the two PLACES touch."""
    return first_touch(one, other) is not None


def turns_back(read, written):
    """How many turns ahead the one PLACE had the cell that the read one has; None if at no fixed number."""
    array, a, b = read
    other, c, d = written
    if array != other or a != c or a == 0 or (d - b) % a != 0:
        return None
    return (d - b) // a


def targets_of(source):
    """The list of the PLACES that are written."""
    return [target for _, _, target, _ in tupled(source)[0]]


def places_of(source):
    """The ascending tuple of all PLACES, targets and reads."""
    return set_of(targets_of(source) + [place for _, _, _, reads in tupled(source)[0] for place in reads])


def arrays_of(source):
    """The set of the arrays."""
    return set_of([array for array, _, _ in places_of(source)])


def hang(one, other, targets):
    """Whether two PLACES hang together at once."""
    return (one in targets or other in targets) and do_touch(one, other)


def parts_of_array(source, array):
    """The set of the parts of the array; raises NoName for an array that no PLACE has."""
    targets = targets_of(source)
    places = [place for place in places_of(source) if place[0] == array]
    if not places:
        raise NoName(array)
    parts = []
    for place in places:
        met = [part for part in parts if any([hang(place, other, targets) for other in part])]
        joined = [place] + [other for part in met for other in part]
        parts = [part for part in parts if part not in met] + [joined]
    return set_of([set_of(part) for part in parts])


def uneven_arrays(source):
    """The set of the arrays with a part whose PLACES have unlike steps."""
    return tuple([array for array in arrays_of(source) if is_uneven_array(source, array)])


def is_uneven_array(source, array):
    """Whether a part of the array has PLACES with unlike steps."""
    return any([len({a for _, a, _ in part}) > 1 for part in parts_of_array(source, array)])


def is_even(source):
    """Whether all arrays are even."""
    return uneven_arrays(source) == ()


def check_even(source):
    """Raises NotEven for the least array that is not even."""
    uneven = uneven_arrays(source)
    if uneven:
        raise NotEven(uneven[0])


def read_place(source, name, number):
    """The PLACE of this read; raises NoName, then NoNumber."""
    reads = reads_of(source, name)
    if not 0 <= number < len(reads):
        raise NoNumber(number)
    return reads[number]


def distance_to(read, target, is_ahead):
    """How many turns ahead what stands in the read PLACE can come from the target; None if never."""
    if read[1] == 0:
        distance = 0 if read == target else None
    else:
        distance = turns_back(read, target)
    if distance == 0 and not is_ahead:
        # Not yet written in this turn: only a cell that stays the same was written by the turn before.
        return 1 if read[1] == 0 else None
    return distance


def writers_asked(source, name, number):
    """As writers_met, for a read whose array is known to be even."""
    read = read_place(source, name, number)
    names = statement_names(source)
    place = names.index(name)
    met = []
    for at, target in enumerate(targets_of(source)):
        distance = distance_to(read, target, at < place)
        if distance is not None and distance >= 0:
            met.append((distance, -at))
    return tuple([(names[-back], distance) for distance, back in sorted(met)])


def writers_met(source, name, number):
    """The pairs (statement, d) of all that could write what is read, in the order in which they are asked."""
    array = read_place(source, name, number)[0]
    if is_uneven_array(source, array):
        raise NotEven(array)
    return writers_asked(source, name, number)


def letter_met(source, name, number, conditions, turn):
    """The pair (statement, turn) whose letter is read there; None for a first letter."""
    for writer, distance in writers_met(source, name, number):
        if acts(source, writer, conditions):
            return (writer, turn - distance) if distance <= turn else None
    return None


def letters_read(source, conditions):
    """The list of the STATEMENTS whose letters those that act by the conditions read."""
    found = []
    for name, guard, _, reads in tupled(source)[0]:
        if not guard_holds(guard, conditions):
            continue
        for number in range(len(reads)):
            asked = writers_asked(source, name, number)
            found = found + [writer for writer, _ in asked if acts(source, writer, conditions)][:1]
    return found


def never_read(source):
    """The set of the STATEMENTS, not told, whose letter no STATEMENT that acts ever reads."""
    check_even(source)
    read = [name for conditions in subsets(conditions_of(source)) for name in letters_read(source, conditions)]
    return set_of([name for name in statement_names(source) if name not in read and name not in source[1]])
