"""Hands: the distances along rows and waits, and what they tell of all RUNS."""

from builtahead.errors import NoName, Stuck
from builtahead.values import is_natural, set_of, tupled


def names_in_rows(rows):
    """The ascending list of the names that stand in the rows."""
    return sorted([name for row in rows for name in row])


def check_names(rows, names):
    """Raises NoName for the first of the names that stands in no row."""
    standing = names_in_rows(rows)
    for name in names:
        if name not in standing:
            raise NoName(name)


def row_arrows(rows):
    """The list of the arrows that the rows give."""
    found = []
    for row in rows:
        found.extend([(first, later, 0) for first, later in zip(row, row[1:])])
        if row:
            found.append((row[-1], row[0], 1))
    return found


def arrows(rows, waits):
    """The set of all arrows."""
    return set_of(row_arrows(rows) + list(tupled(waits)))


def least_arrows(rows, waits):
    """The dict of the least number of an arrow from one name to another."""
    least = {}
    for first, later, number in arrows(rows, waits):
        # They come in ascending order, so the first one is the least.
        least.setdefault((first, later), number)
    return least


def distances(rows, waits):
    """The dict of the distances D of all pairs of names with a way."""
    found = least_arrows(rows, waits)
    names = names_in_rows(rows)
    for middle in names:
        into = [(first, found[(first, middle)]) for first in names if (first, middle) in found]
        onward = [(last, found[(middle, last)]) for last in names if (middle, last) in found]
        for first, way_in in into:
            for last, way_on in onward:
                if way_in + way_on < found.get((first, last), way_in + way_on + 1):
                    found[(first, last)] = way_in + way_on
    return found


def gap(rows, waits, one, other):
    """The distance D(one, other); None if there is no way."""
    check_names(rows, (one, other))
    return distances(rows, waits).get((one, other))


def all_gaps(rows, waits):
    """The ascending tuple of all triples (s, t, D(s, t))."""
    found = distances(rows, waits)
    return tuple([(first, last, found[(first, last)]) for first, last in sorted(found)])


def gaps(made):
    """As all_gaps, of the rows and waits of a MADE."""
    return all_gaps(made[2], made[3])


def least_gap(made, one, other):
    """As gap, of the rows and waits of a MADE."""
    return gap(made[2], made[3], one, other)


def sums_by_length(least, names, goal):
    """For each number of arrows, from 0, the dict of the least sums of so many from a name to the goal."""
    tables = [{goal: 0}]
    for _ in names:
        last, table = tables[-1], {}
        for name in names:
            sums = [least[(name, other)] + last[other] for other in last if (name, other) in least]
            if sums:
                table[name] = min(sums)
        tables.append(table)
    return tables


def gap_way(rows, waits, one, other):
    """Of the least ways from one to other those with the fewest names, of these the least; None if none is."""
    rest = gap(rows, waits, one, other)
    if rest is None:
        return None
    least = least_arrows(rows, waits)
    tables = sums_by_length(least, names_in_rows(rows), other)
    size = min([k for k, table in enumerate(tables) if k > 0 and table.get(one) == rest])
    way = [one]
    for table in tables[:size][::-1]:
        here = way[-1]
        onward = [name for name in table if (here, name) in least and least[(here, name)] + table[name] == rest]
        way.append(min(onward))
        rest = rest - least[(here, way[-1])]
    return tuple(way)


def pieces_of_way(thing):
    """The list of the pairs of neighbours."""
    return list(zip(thing, thing[1:]))


def is_tuple_of_words(thing):
    """Whether the thing is a tuple of strings."""
    return type(thing) is tuple and all([type(part) is str for part in thing])


def is_gap_way(rows, waits, one, other, thing):
    """Whether the thing is a way from one to other with the sum D(one, other)."""
    sum_wanted = gap(rows, waits, one, other)
    if not is_tuple_of_words(thing) or len(thing) < 2 or (thing[0], thing[-1]) != (one, other):
        return False
    least = least_arrows(rows, waits)
    pieces = pieces_of_way(thing)
    return all([piece in least for piece in pieces]) and sum([least[piece] for piece in pieces]) == sum_wanted


def is_stuck(rows, waits):
    """Whether there is a ring of sum 0."""
    found = distances(rows, waits)
    return any([found.get((name, name)) == 0 for name in names_in_rows(rows)])


def check_not_stuck(rows, waits):
    """Raises Stuck if there is a ring of sum 0."""
    if is_stuck(rows, waits):
        raise Stuck()


def arrows_of_none(rows, waits):
    """The dict of the names to which each name has an arrow of 0."""
    onward = {name: [] for name in names_in_rows(rows)}
    for first, later, number in arrows(rows, waits):
        if number == 0:
            onward[first].append(later)
    return onward


def ring_from(onward, start, size):
    """The least way by arrows of 0 round from start to start, with so many names; None if there is none."""
    layers = [[start]]
    for _ in range(size):
        last = layers[-1]
        layers.append([name for name in onward if any([to in last for to in onward[name]])])
    if start not in layers[size]:
        return None
    ring = [start]
    for layer in layers[1:size][::-1]:
        ring.append(min([name for name in onward[ring[-1]] if name in layer]))
    return tuple(ring)


def stuck_ring(rows, waits):
    """Of the rings of sum 0 with the fewest names the least; None if there is none."""
    onward = arrows_of_none(rows, waits)
    # The first way round has no name twice, as there would be a shorter one, and none below its start.
    for size in range(1, len(onward) + 1):
        for start in sorted(onward):
            ring = ring_from(onward, start, size)
            if ring is not None:
                return ring
    return None


def is_stuck_ring(rows, waits, thing):
    """Whether the thing is a ring of sum 0."""
    if not is_tuple_of_words(thing) or len(thing) == 0:
        return False
    if len(set(thing)) < len(thing) or thing[0] != min(thing):
        return False
    least = least_arrows(rows, waits)
    return all([least.get(piece) == 0 for piece in pieces_of_way((*thing, thing[0]))])


def is_ahead(rows, waits, one, other, turns):
    """Whether one ends ahead of the begin of other so many turns later, in EACH RUN; raises Stuck behind NoName."""
    distance = gap(rows, waits, one, other)
    check_not_stuck(rows, waits)
    return distance is not None and distance <= turns


def ranks(rows, waits):
    """The ascending tuple of pairs (name, number), the least that keep all arrows; raises Stuck."""
    check_not_stuck(rows, waits)
    names = names_in_rows(rows)
    all_arrows = arrows(rows, waits)
    numbers = {name: 0 for name in names}
    # Without a ring of sum 0 the least numbers are reached in as many rounds as there are names.
    for _ in names:
        for first, later, number in all_arrows:
            numbers[later] = max(numbers[later], numbers[first] + 1 - number * len(names))
    return tuple([(name, numbers[name]) for name in names])


def are_ranks(rows, waits, thing):
    """Whether the thing is a tuple as ranks returns, of least numbers or not."""
    if type(thing) is not tuple:
        return False
    if not all([type(part) is tuple and len(part) == 2 for part in thing]):
        return False
    names = names_in_rows(rows)
    if [name for name, _ in thing] != names or not all([is_natural(number) for _, number in thing]):
        return False
    numbers = {name: number for name, number in thing}
    all_arrows = arrows(rows, waits)
    return all([numbers[later] > numbers[first] - number * len(names) for first, later, number in all_arrows])


def holds_by(found, wait):
    """Whether a wait is kept by the distances that were found."""
    first, later, number = wait
    return (first, later) in found and found[(first, later)] <= number


def needed_waits(rows, waits):
    """The fewest waits with the same RUNS; raises Stuck."""
    check_not_stuck(rows, waits)
    all_waits = set_of(tupled(waits))
    # Without a ring of sum 0 no two waits can follow from each other: all that follow can go together.
    return tuple([
        wait for wait in all_waits
        if not holds_by(distances(rows, [other for other in all_waits if other != wait]), wait)
    ])


def fewer_runs(rows, one, other):
    """Whether each RUN with the waits one is a RUN with the waits other; raises Stuck."""
    check_not_stuck(rows, one)
    check_not_stuck(rows, other)
    found = distances(rows, one)
    return all([holds_by(found, wait) for wait in other])


def broken_duties(rows, waits, duties):
    """The set of the duties that do not hold."""
    found = distances(rows, waits)
    return set_of([duty for duty in tupled(duties) if not holds_by(found, duty)])


def waits_for(rows, duties):
    """The fewest waits with just those RUNS in which all duties hold; None if they make a ring of sum 0."""
    if is_stuck(rows, duties):
        return None
    return needed_waits(rows, duties)
