"""Needs: what the told STATEMENTS lead back to, and by how many turns."""

from builtahead.flows import all_conditions, flow, leaf
from builtahead.mades import trees_of
from builtahead.sources import acts, statement_of
from builtahead.values import set_of, tupled


def leaves_by(steps, conditions):
    """The dict of the tuples of what the TREES of each name lead to by the conditions."""
    return {name: tuple([leaf(tree, conditions) for tree in trees]) for name, trees in steps}


def told_acting(source, conditions):
    """The ascending list of the told STATEMENTS that act."""
    return [name for name in source[1] if acts(source, name, conditions)]


def names_looked_at(found):
    """The set of the names to which these leaves lead."""
    return set_of([part[0] for part in found if part])


def reached_from(starts, leads):
    """The set of the starts and of the names to which their leaves, by this dict, and those of such names lead."""
    reached, waiting = [], list(starts)
    while waiting:
        name = waiting.pop()
        if name not in reached:
            reached.append(name)
            waiting.extend(names_looked_at(leads[name]))
    return set_of(reached)


def needed_by(source, steps, conditions):
    """As needed, by the FLOW."""
    return reached_from(told_acting(source, conditions), leaves_by(steps, conditions))


def needed(source, conditions):
    """The set of the needed STATEMENTS; raises NotEven."""
    return needed_by(source, flow(source), conditions)


def ever_needed(source):
    """The set of the STATEMENTS needed by some conditions; raises NotEven."""
    steps = flow(source)
    return set_of([name for conditions in all_conditions(source) for name in needed_by(source, steps, conditions)])


def flow_behind_name(source, name):
    """The FLOW; raises NoName, then NotEven."""
    statement_of(source, name)
    return flow(source)


def when_needed(source, name):
    """The set of the CONDITIONS by which this STATEMENT is needed."""
    steps = flow_behind_name(source, name)
    return tuple([conditions for conditions in all_conditions(source) if name in needed_by(source, steps, conditions)])


def struck(source):
    """The SOURCE without the STATEMENTS that are never needed; raises NotEven."""
    kept = ever_needed(source)
    statements, told = tupled(source)
    return tuple([part for part in statements if part[0] in kept]), tuple([name for name in told if name in kept])


def looks_of(names, leads):
    """The set of the quadruples (name, read, u, d) of the leaves of these names."""
    found = [(name, read, part) for name in names for read, part in enumerate(leads[name])]
    return set_of([(name, read, *part) for name, read, part in found if part])


def looks(source, conditions):
    """The set of the quadruples (name, read, u, d) of needed STATEMENTS; raises NotEven."""
    steps = flow(source)
    return looks_of(needed_by(source, steps, conditions), leaves_by(steps, conditions))


def least_looks(steps, conditions):
    """The dict of the least d of a look from one STATEMENT at another one."""
    leads = leaves_by(steps, conditions)
    least = {}
    for name, _, other, d in looks_of(sorted(leads), leads):
        least[(name, other)] = min(d, least.get((name, other), d))
    return least


def chain_to(source, conditions, name):
    """Of the CHAINs to this STATEMENT with the fewest NAMEs the least; None if there is none."""
    steps = flow_behind_name(source, name)
    least = least_looks(steps, conditions)
    chains = {start: (start,) for start in told_acting(source, conditions)}
    for _ in steps:
        if name in chains:
            return chains[name]
        longer = {}
        for first, later in least:
            if first in chains:
                chain = (*chains[first], later)
                longer[later] = min(chain, longer.get(later, chain))
        chains = longer
    return None


def is_chain_to(source, conditions, name, thing):
    """Whether the thing is a CHAIN to this STATEMENT."""
    least = least_looks(flow_behind_name(source, name), conditions)
    if type(thing) is not tuple or not all([type(part) is str for part in thing]):
        return False
    if len(thing) == 0 or thing[-1] != name or thing[0] not in told_acting(source, conditions):
        return False
    return all([pair in least for pair in zip(thing, thing[1:])])


def least_sums(source, steps, conditions):
    """The dict of the least sum of a CHAIN to each STATEMENT that has one."""
    least = least_looks(steps, conditions)
    sums = {name: 0 for name in told_acting(source, conditions)}
    for _ in steps:
        for first, later in least:
            if first in sums:
                many = sums[first] + least[(first, later)]
                sums[later] = min(many, sums.get(later, many))
    return sums


def last_turns(source, conditions, name):
    """The least sum of a CHAIN to this STATEMENT; None if there is none."""
    return least_sums(source, flow_behind_name(source, name), conditions).get(name)


def is_looked_at(source, conditions, name, turn, many):
    """Whether the STORY of a run of many turns has a row of this STEP."""
    turns = last_turns(source, conditions, name)
    return turns is not None and 0 <= turn <= many - 1 - turns


def looked_at(source, conditions, many):
    """The set of the pairs (name, turn) of which the STORY of a run of many turns has rows; raises NotEven."""
    sums = least_sums(source, flow(source), conditions)
    return tuple([(name, turn) for name in sorted(sums) for turn in range(many - sums[name])])


def needed_in(made, wanted, conditions):
    """As needed_names, by the needed STATEMENTS."""
    steps, moves = [name for name, _ in made[0]], [name for name, _, _ in made[1]]
    leads = leaves_by(made[0], conditions)
    # What a step leads to counts as far as it is a move: other steps are needed by the SOURCE alone.
    for name, _, tree in made[1]:
        leads[name] = (leaf(tree, conditions),)
    onward = {name: tuple([part for part in leads[name] if part and part[0] in moves]) for name in leads}
    return reached_from([name for name in wanted if name in steps], onward)


def needed_names(source, made, conditions):
    """The set of the needed STATEMENTS of the MADE, and of the MOVES to which these lead; raises NotEven."""
    return needed_in(made, needed(source, conditions), conditions)


def made_looks(source, made, conditions):
    """The set of the quadruples (name, read, y, d) of such names by the TREES of the MADE; raises NotEven."""
    names = needed_names(source, made, conditions)
    return looks_of(names, {name: tuple([leaf(tree, conditions) for tree in trees_of(made, name)]) for name in names})
