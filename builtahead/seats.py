"""Seats: which steps may write where another one's value stood."""

from builtahead.errors import NoName
from builtahead.flows import all_conditions
from builtahead.hands import check_not_stuck
from builtahead.needs import made_looks
from builtahead.programs import Program
from builtahead.shapes import names_of
from builtahead.values import ascends, set_of, tupled
from builtahead.ways import pairs_without

# A look and a name that may write over it come to at most so many turns.
ROUND = 1


def check_asked(made, names):
    """Raises NoName for the first of these that is none of the names, then Stuck."""
    known = names_of(made)
    for name in names:
        if name not in known:
            raise NoName(name)
    check_not_stuck(made[2], made[3])


def all_looks(source, made, program):
    """The list of all looks (conditions, reader, kept, back)."""
    return [
        (conditions, reader, kept, back)
        for conditions in all_conditions(source) for reader, _, kept, back in made_looks(source, made, conditions)
        if program.is_done(kept, conditions)
    ]


def is_spoilt(program, look, name):
    """Whether this name spoils the look."""
    conditions, reader, kept, back = look
    return program.is_done(name, conditions) and not program.is_within(reader, name, kept, back, ROUND)


def spoilt_by_pair(source, made, one, other):
    """The set of (conditions, reader, kept, writer) of the looks at one of both that one of both spoils."""
    program = Program(made)
    found = [look for look in all_looks(source, made, program) if look[2] in (one, other)]
    return set_of([
        (*look[:3], writer) for look in found for writer in (one, other) if is_spoilt(program, look, writer)
    ])


def spoilers(source, made):
    """The set of the pairs (writer, kept) of which the first one spoils a look at the second one."""
    program = Program(made)
    return set_of([
        (name, look[2]) for look in all_looks(source, made, program) for name in program.trees
        if is_spoilt(program, look, name)
    ])


def sitting(made, spoilt):
    """The list of the steps that can sit, by the pairs of spoilers."""
    return [name for name, _ in made[0] if (name, name) not in spoilt]


def do_share(spoilt, one, other):
    """Whether two that can sit may share, by the pairs of spoilers."""
    return (one, other) not in spoilt and (other, one) not in spoilt


def can_sit(source, made, one):
    """Whether this is a step that spoils no look at itself; raises NoName, then Stuck."""
    check_asked(made, (one,))
    return one in sitting(made, spoilers(source, made))


def may_share(source, made, one, other):
    """Whether both can sit, and neither spoils a look at the other one; raises NoName, then Stuck."""
    check_asked(made, (one, other))
    spoilt = spoilers(source, made)
    able = sitting(made, spoilt)
    return one in able and other in able and do_share(spoilt, one, other)


def sharing_pairs(source, made):
    """The set of the pairs that may share, the lesser one first; raises Stuck."""
    check_asked(made, ())
    spoilt = spoilers(source, made)
    able = sitting(made, spoilt)
    return tuple([(one, other) for one in able for other in able if one < other and do_share(spoilt, one, other)])


def why_apart(source, made, one, other):
    """The least (conditions, reader, kept, writer) of both; None if there is none; raises NoName, then Stuck."""
    check_asked(made, (one, other))
    found = spoilt_by_pair(source, made, one, other)
    return found[0] if found else None


def is_layout(source, made, thing):
    """Whether the thing is a LAYOUT; raises Stuck."""
    check_asked(made, ())
    if type(thing) is not tuple or not all([type(part) is tuple and part for part in thing]):
        return False
    if not all([type(name) is str for part in thing for name in part]):
        return False
    spoilt = spoilers(source, made)
    if sorted([name for part in thing for name in part]) != sitting(made, spoilt):
        return False
    is_sorted = ascends(thing) and all([ascends(part) for part in thing])
    return is_sorted and all([do_share(spoilt, one, other) for part in thing for one in part for other in part])


def with_next(layouts, spoilt, name):
    """These unfinished LAYOUTS with the next name in a set of each where it may be, or in a set of its own."""
    found = []
    for layout in layouts:
        for at, part in enumerate(layout):
            if all([do_share(spoilt, name, other) for other in part]):
                found.append((*layout[:at], (*part, name), *layout[at + 1:]))
        found.append((*layout, (name,)))
    return found


def least_of_all(source, made):
    """Of the LAYOUTS with the fewest sets the least."""
    spoilt = spoilers(source, made)
    layouts = [()]
    # Names come in ascending order, so the sets and their names do, too.
    for name in sitting(made, spoilt):
        layouts = with_next(layouts, spoilt, name)
    fewest = min([len(layout) for layout in layouts])
    return min([layout for layout in layouts if len(layout) == fewest])


def fewest_seats(source, made):
    """How many sets the LAYOUTS with the fewest have; raises Stuck."""
    check_asked(made, ())
    return len(least_of_all(source, made))


def least_layout(source, made):
    """Of the LAYOUTS with the fewest sets the least; raises Stuck."""
    check_asked(made, ())
    return least_of_all(source, made)


def apart_most(source, made):
    """Of the greatest sets of names that can sit, no two of which may share, the least; raises Stuck."""
    check_asked(made, ())
    spoilt = spoilers(source, made)
    found = [()]
    for name in sitting(made, spoilt):
        found = found + [
            (*part, name) for part in found if not any([do_share(spoilt, name, other) for other in part])
        ]
    most = max([len(part) for part in found])
    return min([part for part in found if len(part) == most])


def seated(source, made):
    """The MADE with the sets of the least LAYOUT in a seat each; raises Stuck."""
    check_asked(made, ())
    steps, moves, rows, waits, masks, homes, order = tupled(made)
    seats = {name: ("seat", seat) for seat, part in enumerate(least_of_all(source, made)) for name in part}
    for name in sorted(seats):
        order = pairs_without(order, name)
    return steps, moves, rows, waits, masks, tuple([(name, seats.get(name, home)) for name, home in homes]), order
