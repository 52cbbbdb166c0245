"""RUNS: all orders of begins and ends that rows and waits allow."""

from heapq import heappop, heappush

from builtahead.errors import NoName, NoNumber
from builtahead.hands import check_not_stuck, distances, is_stuck, names_in_rows
from builtahead.values import tupled

BEGIN = "begin"
END = "end"


def moments(made, turns):
    """The set of all moments."""
    names = names_in_rows(made[2])
    return tuple([(name, turn, word) for name in names for turn in range(turns) for word in (BEGIN, END)])


def check_steps(made, turns, steps):
    """Raises NoName or NoNumber for the first of the pairs (name, turn) that is none of a RUN."""
    names = names_in_rows(made[2])
    for name, turn in steps:
        if name not in names:
            raise NoName(name)
        if not 0 <= turn < turns:
            raise NoNumber(turn)


def check_moments(made, turns, asked):
    """As check_steps, for moments."""
    check_steps(made, turns, [(name, turn) for name, turn, _ in asked])


def hand_moments(rows, turns):
    """For each hand the list of its moments, one behind another."""
    return [[(name, turn, word) for turn in range(turns) for name in row for word in (BEGIN, END)] for row in rows]


def kept_pairs(made, turns):
    """The list of pairs of moments that rows and waits keep in this order."""
    pairs = []
    for line in hand_moments(tupled(made[2]), turns):
        pairs.extend(list(zip(line, line[1:])))
    for first, later, number in made[3]:
        pairs.extend([((first, turn - number, END), (later, turn, BEGIN)) for turn in range(number, turns)])
    return pairs


def is_moment(thing):
    """Whether the thing is built like a moment."""
    if not (type(thing) is tuple and len(thing) == 3):
        return False
    name, turn, word = thing
    return type(name) is str and type(turn) is int and type(word) is str


def keeps(made, turns, pairs, thing):
    """Whether the thing is a RUN that keeps these pairs of moments, too."""
    if type(thing) is not tuple or not all([is_moment(part) for part in thing]):
        return False
    if tuple(sorted(thing)) != moments(made, turns):
        return False
    place = {moment: at for at, moment in enumerate(thing)}
    return all([place[first] < place[later] for first, later in kept_pairs(made, turns) + list(pairs)])


def is_run(made, turns, thing):
    """Whether the thing is a RUN."""
    return keeps(made, turns, [], thing)


def has_run(made, turns):
    """Whether there is a RUN."""
    return turns == 0 or not is_stuck(made[2], made[3])


def is_before(found, one, other):
    """Whether the one moment is ahead of the other one in each RUN, by the distances found."""
    name, turn, word = one
    later_name, later_turn, later_word = other
    if (name, turn) == (later_name, later_turn):
        return (word, later_word) == (BEGIN, END)
    distance = found.get((name, later_name))
    return distance is not None and distance <= later_turn - turn


def must_be_ahead(made, turns, one, other):
    """Whether the one moment must be ahead of the other one; raises Stuck behind NoName and NoNumber."""
    check_moments(made, turns, (one, other))
    check_not_stuck(made[2], made[3])
    return is_before(distances(made[2], made[3]), one, other)


def all_ahead(made, turns, moment):
    """The set of the moments that must be ahead of this one; raises Stuck behind NoName and NoNumber."""
    check_moments(made, turns, (moment,))
    check_not_stuck(made[2], made[3])
    found = distances(made[2], made[3])
    return tuple([one for one in moments(made, turns) if is_before(found, one, moment)])


def in_order(all_moments, pairs):
    """The least order of these moments, given in ascending order, that keeps all pairs; None if there is none."""
    missing = {moment: 0 for moment in all_moments}
    behind = {moment: [] for moment in all_moments}
    for first, later in pairs:
        missing[later] += 1
        behind[first].append(later)
    ready = [moment for moment in all_moments if missing[moment] == 0]
    done = []
    while ready:
        moment = heappop(ready)
        done.append(moment)
        for later in behind[moment]:
            missing[later] -= 1
            if missing[later] == 0:
                heappush(ready, later)
    return tuple(done) if len(done) == len(all_moments) else None


def check_pairs(made, turns, pairs):
    """As check_moments, for pairs of moments."""
    check_moments(made, turns, [moment for pair in pairs for moment in pair])


def run_with(made, turns, pairs):
    """A RUN in which the first moment of each pair is ahead of the second one; None if there is none."""
    check_pairs(made, turns, pairs)
    return in_order(moments(made, turns), kept_pairs(made, turns) + list(tupled(pairs)))


def is_run_with(made, turns, pairs, thing):
    """Whether the thing is a RUN as run_with returns one."""
    check_pairs(made, turns, pairs)
    return keeps(made, turns, tupled(pairs), thing)


def run_between(made, turns, writer, other, reader):
    """A RUN in which other ends behind the end of writer and ahead of the begin of reader; None if there is none."""
    middle = (*other, END)
    return run_with(made, turns, (((*writer, END), middle), (middle, (*reader, BEGIN))))


def needs_of_begins(made, turns, lines):
    """For each begin that waits the list of pairs (hand, how many moments of it must be done)."""
    spot = {moment: (hand, at) for hand, line in enumerate(lines) for at, moment in enumerate(line)}
    needs = {moment: [] for moment in spot}
    for first, later, number in made[3]:
        for turn in range(number, turns):
            hand, at = spot[(first, turn - number, END)]
            needs[(later, turn, BEGIN)].append((hand, at + 1))
    return needs


def next_states(lines, needs, state):
    """The ascending list of pairs (moment that can come next, state behind it); a state tells how far each hand is."""
    found = []
    for hand, line in enumerate(lines):
        if state[hand] < len(line):
            moment = line[state[hand]]
            if all([state[other] >= many for other, many in needs[moment]]):
                found.append((moment, (*state[:hand], state[hand] + 1, *state[hand + 1:])))
    return sorted(found)


def counts_behind(lines, needs):
    """The dict of the number of ways in which the moments can go on from each state to the end."""
    states = [()]
    for line in lines:
        states = [(*state, many) for state in states for many in range(len(line) + 1)]
    counts = {}
    # Each next state is greater, so going down from the last one finds all that is asked.
    for state in states[::-1]:
        if state == states[-1]:
            counts[state] = 1
        else:
            counts[state] = sum([counts[behind] for _, behind in next_states(lines, needs, state)])
    return counts


def how_many_runs(made, turns):
    """How many RUNS there are."""
    lines = hand_moments(made[2], turns)
    counts = counts_behind(lines, needs_of_begins(made, turns, lines))
    return counts[tuple([0 for _ in lines])]


def nth_run(made, turns, number):
    """The RUN with this number of all, ascending; raises NoNumber if there is none."""
    lines = hand_moments(made[2], turns)
    needs = needs_of_begins(made, turns, lines)
    counts = counts_behind(lines, needs)
    state, rest, run = tuple([0 for _ in lines]), number, []
    if not 0 <= number < counts[state]:
        raise NoNumber(number)
    while len(run) < len(needs):
        for moment, behind in next_states(lines, needs, state):
            if rest < counts[behind]:
                run.append(moment)
                state = behind
                break
            rest = rest - counts[behind]
    return tuple(run)


def number_of_run(made, turns, run):
    """The number of this RUN among all, ascending."""
    lines = hand_moments(made[2], turns)
    needs = needs_of_begins(made, turns, lines)
    counts = counts_behind(lines, needs)
    state, number = tuple([0 for _ in lines]), 0
    for moment in tupled(run):
        for lesser, behind in next_states(lines, needs, state):
            if lesser == moment:
                state = behind
                break
            number = number + counts[behind]
    return number
