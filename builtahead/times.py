"""Times: when steps begin by LATENCIES, and what holds for all of them."""

from math import gcd

from builtahead.errors import NoName
from builtahead.hands import arrows, check_not_stuck, distances, least_arrows, names_in_rows, ranks
from builtahead.values import ascends, is_natural

MOST_TURNS = 200


def is_latencies(made, thing):
    """Whether the thing is LATENCIES of the MADE, of however many turns."""
    if type(thing) is not tuple:
        return False
    if not all([type(part) is tuple and len(part) == 3 for part in thing]):
        return False
    names = names_in_rows(made[2])
    if not all([name in names and is_natural(turn) and is_natural(number) for name, turn, number in thing]):
        return False
    return ascends([(name, turn) for name, turn, _ in thing])


def check_made(made):
    """Raises Stuck if there is a ring of sum 0 in the MADE."""
    check_not_stuck(made[2], made[3])


def begins_of_steps(made, turns, lasting):
    """The dict of the moments at which each (name, turn) begins, by how long each lasts; raises Stuck."""
    order = sorted([(rank, name) for name, rank in ranks(made[2], made[3])])
    into = {name: [] for _, name in order}
    for first, later, number in arrows(made[2], made[3]):
        into[later].append((first, number))
    found = {}
    for turn in range(turns):
        for _, name in order:
            ahead = [(first, turn - number) for first, number in into[name] if number <= turn]
            found[(name, turn)] = max([found[step] + lasting.get(step, 0) for step in ahead], default=0)
    return found


def lasting_of(latencies):
    """The dict of how long each (name, turn) that is told takes."""
    return {(name, turn): number for name, turn, number in latencies}


def begins(made, turns, latencies):
    """The set of the triples (name, turn, moment at which it begins); raises Stuck."""
    found = begins_of_steps(made, turns, lasting_of(latencies))
    return tuple([(name, turn, found[(name, turn)]) for name, turn in sorted(found)])


def end_time(made, turns, latencies):
    """The END: the greatest end of all; raises Stuck."""
    lasting = lasting_of(latencies)
    found = begins_of_steps(made, turns, lasting)
    return max([found[step] + lasting.get(step, 0) for step in found])


def check_two(one, other):
    """Raises Stuck, then NoName for the least name of one that other lacks."""
    check_made(one)
    check_made(other)
    names = names_in_rows(other[2])
    for name in names_in_rows(one[2]):
        if name not in names:
            raise NoName(name)


def goes_ahead(found, step, later):
    """Whether a step of a turn goes ahead of another one, by the distances found."""
    distance = found.get((step[0], later[0]))
    return distance is not None and distance <= later[1] - step[1]


def are_apart(found, step, later):
    """Whether of two steps of turns none goes ahead of the other one, by the distances found."""
    return not (goes_ahead(found, step, later) or goes_ahead(found, later, step))


def longer_chains(chains, by_one, by_other):
    """The chains by the one distances, apart by the other ones, that go one step on from these."""
    found = []
    for chain in chains:
        name, turn = chain[-1]
        onward = [(to, turn + by_one[(start, to)]) for start, to in sorted(by_one) if start == name]
        # A turn later may be apart where the same turn is not, two turns later never.
        for step in onward + [(to, later + 1) for to, later in onward]:
            if all([are_apart(by_other, done, step) for done in chain]):
                found.append((*chain, step))
    return found


def chains_apart(one, other):
    """The list of the chains of one step, of two and so on, as long as there are any."""
    by_one, by_other = distances(one[2], one[3]), distances(other[2], other[3])
    found = [[((name, 0),) for name in names_in_rows(one[2])]]
    while found[-1]:
        found.append(longer_chains(found[-1], by_one, by_other))
    return found[:-1]


def never_later(one, other):
    """Whether the END of one is at most that of other FOR ALL turns and LATENCIES of one."""
    return most_times(one, other) <= 1


def latencies_later(one, other):
    """A pair (turns, LATENCIES) by which the END of one is greater; None if there is none."""
    check_two(one, other)
    chains = chains_apart(one, other)
    if len(chains) < 2:
        return None
    first, last = chains[1][0]
    return last[1] + 1, tuple(sorted([(*first, 1), (*last, 1)]))


def is_latencies_later(one, other, thing):
    """Whether the thing is a pair (turns, LATENCIES) by which the END of one is greater."""
    check_two(one, other)
    if not (type(thing) is tuple and len(thing) == 2):
        return False
    turns, latencies = thing
    if not (is_natural(turns) and 1 <= turns <= MOST_TURNS and is_latencies(one, latencies)):
        return False
    if not all([turn < turns for _, turn, _ in latencies]):
        return False
    return end_time(one, turns, latencies) > end_time(other, turns, latencies)


def most_times(one, other):
    """The least k such that the END of one is at most k times that of other, whatever the LATENCIES."""
    check_two(one, other)
    return len(chains_apart(one, other))


def chain_apart(one, other):
    """A set of most_times steps of turns, each two ahead by one, none by other."""
    check_two(one, other)
    return tuple(sorted(chains_apart(one, other)[-1][0]))


def is_steps(names, thing):
    """Whether the thing is a set of steps of turns of these names."""
    if type(thing) is not tuple:
        return False
    if not all([type(part) is tuple and len(part) == 2 for part in thing]):
        return False
    if not all([name in names and is_natural(turn) for name, turn in thing]):
        return False
    return ascends(thing)


def is_chain_apart(one, other, thing):
    """Whether the thing is a set as chain_apart returns one."""
    most = most_times(one, other)
    if not is_steps(names_in_rows(one[2]), thing) or len(thing) != most:
        return False
    by_one, by_other = distances(one[2], one[3]), distances(other[2], other[3])
    pairs = [(step, later) for at, later in enumerate(thing) for step in thing[:at]]
    return all([are_apart(by_other, step, later) and not are_apart(by_one, step, later) for step, later in pairs])


def best_round(least, times, top, bottom):
    """Of the rounds the one with most time beyond top for each bottom turns: (gain, spent, turns)."""
    best = (0, top, bottom)
    for start in times:
        table = {start: (0, 0, 0)}
        for _ in times:
            onward = {}
            for first, later in least:
                if first in table:
                    gain, spent, turns = table[first]
                    number = least[(first, later)]
                    here = (gain + times[first] * bottom - number * top, spent + times[first], turns + number)
                    onward[later] = max(here, onward.get(later, here))
            table = onward
            best = max(best, table.get(start, best))
    return best


def beat(made, rates):
    """The FRACTION of the greatest time that a ring takes for a turn."""
    check_made(made)
    least = least_arrows(made[2], made[3])
    times = {name: number for name, number in rates}
    top, bottom = 0, 1
    gain, spent, turns = best_round(least, times, top, bottom)
    # Each better round raises the time for a turn, so some round is the best at last.
    while gain > 0:
        top, bottom = spent, turns
        gain, spent, turns = best_round(least, times, top, bottom)
    return top // gcd(top, bottom), bottom // gcd(top, bottom)
