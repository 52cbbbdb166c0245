"""The last word: whether a MADE is right in all WORLDS, and why."""

from builtahead.flows import all_conditions, flow
from builtahead.hands import gap_way, is_tuple_of_words, least_arrows, pieces_of_way, stuck_ring
from builtahead.mades import is_made
from builtahead.programs import Program
from builtahead.sources import acts
from builtahead.values import set_of
from builtahead.wants import all_wants, kept_of

# What a read and a writer other than its own one may come to.
ROUND = 1


def reads_kept(source, program, steps, conditions):
    """The set of (name, number, writer, d) of all reads that lead to a writer."""
    return set_of(kept_of(all_wants(source, program, steps, conditions)))


def kept_reads(source, made, conditions):
    """As reads_kept, of a MADE, stuck or not; raises NotEven."""
    return reads_kept(source, Program(made), flow(source), tuple(conditions))


def told_faults(source, program, conditions):
    """The FAULTS of told STATEMENTS that are not done just where they act."""
    wrong = [name for name in source[1] if program.is_done(name, conditions) != acts(source, name, conditions)]
    return [("told", conditions, name, 0, "") for name in wrong]


def others_looked_at(program, conditions, writer):
    """The list of the names that could write over what this writer wrote, itself among them."""
    done = [name for name in sorted(program.trees) if name == writer or program.is_done(name, conditions)]
    return [name for name in done if program.meet(name, writer)]


def bound_of(program, writer, other):
    """What the ways from a read to the other name and on to the writer may come to."""
    return program.cells(writer) if other == writer else ROUND


def is_over(program, read, other):
    """Whether this name could write over what the read finds, ahead of it."""
    name, _, writer, d = read
    return not program.is_within(name, other, writer, d, bound_of(program, writer, other))


def faults_of_read(program, conditions, read):
    """The FAULTS of a read that leads to a writer."""
    name, number, writer, d = read
    if not program.is_done(writer, conditions):
        return [("done", conditions, name, number, writer)]
    distance = program.near.get((writer, name))
    found = [("late", conditions, name, number, writer)] if distance is None or distance > d else []
    over = [other for other in others_looked_at(program, conditions, writer) if is_over(program, read, other)]
    return found + [("over", conditions, name, number, other) for other in over]


def faults_by(source, program, steps, conditions):
    """The list of all FAULTS by these CONDITIONS."""
    wants = all_wants(source, program, steps, conditions)
    found = told_faults(source, program, conditions)
    found.extend([("leaf", conditions, name, number, "") for (name, number, _, _), lead in wants if lead is None])
    for read in set_of(kept_of(wants)):
        found.extend(faults_of_read(program, conditions, read))
    return found


def faults(source, made):
    """The ascending list of all FAULTS; raises NotEven."""
    steps = flow(source)
    ring = stuck_ring(made[2], made[3])
    if ring is not None:
        return sorted([("stuck", (), name, 0, "") for name in ring])
    program = Program(made)
    found = [fault for conditions in all_conditions(source) for fault in faults_by(source, program, steps, conditions)]
    return sorted(set(found))


def first_fault(source, made):
    """The first FAULT; None if there is none."""
    found = faults(source, made)
    return found[0] if found else None


def is_right(source, made):
    """Whether the MADE tells in each WORLD what the SOURCE tells, and is not stuck."""
    return faults(source, made) == []


def is_made_right(source, thing):
    """Whether the thing is MADE of the SOURCE, and right."""
    return is_made(source, thing) and is_right(source, thing)


def all_kept(source, made):
    """The list of pairs (conditions, kept read), ascending."""
    steps, program = flow(source), Program(made)
    return [
        (conditions, read)
        for conditions in all_conditions(source) for read in reads_kept(source, program, steps, conditions)
    ]


def way_between(made, one, other, alone):
    """A least way from one to other; what stands alone if they are the same."""
    return alone if one == other else gap_way(made[2], made[3], one, other)


def paper_row(made, program, conditions, read):
    """The row of a PAPER for this kept read of a right MADE."""
    name, number, writer, d = read
    way = gap_way(made[2], made[3], writer, name)
    guards = [
        (other, way_between(made, name, other, (name,)), way_between(made, other, writer, ()))
        for other in others_looked_at(program, conditions, writer)
    ]
    return conditions, name, number, way, tuple(guards)


def why_right(source, made):
    """A PAPER; None if the MADE is not right; raises NotEven."""
    if not is_right(source, made):
        return None
    program = Program(made)
    return tuple([paper_row(made, program, conditions, read) for conditions, read in all_kept(source, made)])


def way_total(least, thing, one, other):
    """The sum of a way from one to other, of a piece or more; None if the thing is none."""
    if not is_tuple_of_words(thing) or len(thing) < 2 or (thing[0], thing[-1]) != (one, other):
        return None
    pieces = pieces_of_way(thing)
    return sum([least[piece] for piece in pieces]) if all([piece in least for piece in pieces]) else None


def total_between(least, thing, one, other, alone):
    """As way_total, but of what stands alone if they are the same."""
    if one != other:
        return way_total(least, thing, one, other)
    return 0 if thing == alone else None


def is_guard(least, thing, read, other, bound):
    """Whether the thing is the guard of this other name."""
    if not (type(thing) is tuple and len(thing) == 3 and thing[0] == other):
        return False
    name, _, writer, d = read
    back = total_between(least, thing[1], name, other, (name,))
    on = total_between(least, thing[2], other, writer, ())
    return back is not None and on is not None and back + on + d <= bound


def is_paper_row(least, program, conditions, read, thing):
    """Whether the thing is a row of a PAPER for this kept read."""
    name, number, writer, d = read
    if not (type(thing) is tuple and len(thing) == 5 and type(thing[2]) is int):
        return False
    if thing[:3] != (conditions, name, number):
        return False
    total = way_total(least, thing[3], writer, name)
    others = others_looked_at(program, conditions, writer)
    if total is None or total > d or not (type(thing[4]) is tuple and len(thing[4]) == len(others)):
        return False
    return all([
        is_guard(least, guard, read, other, bound_of(program, writer, other))
        for guard, other in zip(thing[4], others)
    ])


def is_why_right(source, made, thing):
    """Whether the thing is a PAPER; False if the MADE is not right; raises NotEven."""
    if not is_right(source, made) or type(thing) is not tuple:
        return False
    program, least, kept = Program(made), least_arrows(made[2], made[3]), all_kept(source, made)
    return len(thing) == len(kept) and all([
        is_paper_row(least, program, conditions, read, part) for (conditions, read), part in zip(kept, thing)
    ])
