"""Masks: by which CONDITIONS a name must be done, and by which it may be."""

from builtahead.flows import all_conditions, flow
from builtahead.hands import check_not_stuck
from builtahead.lastword import reads_kept
from builtahead.mades import check_name, with_part
from builtahead.needs import needed_by, needed_in
from builtahead.programs import Program
from builtahead.shapes import names_of
from builtahead.sources import guard_holds, guard_of
from builtahead.values import set_of, tupled

# A kept read and a name that may write over it come to at most so many turns.
ROUND = 1


def acting(source, name):
    """The set of the CONDITIONS by which this STATEMENT acts; raises NoName."""
    guard = guard_of(source, name)
    return tuple([conditions for conditions in all_conditions(source) if guard_holds(guard, conditions)])


def needed_by_all(source, made, steps):
    """The dict of the needed names by each CONDITIONS."""
    return {
        conditions: needed_in(made, needed_by(source, steps, conditions), conditions)
        for conditions in all_conditions(source)
    }


def least_masks(source, made):
    """The LEAST masks: an ascending tuple of pairs (name, mask)."""
    wanted = needed_by_all(source, made, flow(source))
    found = []
    for name in names_of(made):
        needing = tuple([conditions for conditions in wanted if name in wanted[conditions]])
        found.append((name, acting(source, name) if name in source[1] else needing))
    return tuple(found)


def is_spoilt(program, read, name):
    """Whether this name spoils the kept read (reader, number, writer, back)."""
    reader, _, writer, back = read
    if name == writer or not program.meet(name, writer):
        return False
    return not program.is_within(reader, name, writer, back, ROUND)


def spoilt_reads(program, kept, name):
    """The set of the pairs (reader, number) of these kept reads that this name spoils."""
    return set_of([read[:2] for read in kept if is_spoilt(program, read, name)])


def greatest_masks(source, made):
    """The GREATEST masks: an ascending tuple of pairs (name, mask); raises Stuck."""
    check_not_stuck(made[2], made[3])
    program, steps = Program(made), flow(source)
    kept = {conditions: reads_kept(source, program, steps, conditions) for conditions in all_conditions(source)}
    found = []
    for name, least in least_masks(source, made):
        mask = least
        if name not in source[1]:
            free = [conditions for conditions in kept if spoilt_reads(program, kept[conditions], name) == ()]
            mask = set_of([*least, *free])
        found.append((name, mask))
    return tuple(found)


def with_masks(made, masks):
    """The MADE with these masks."""
    return with_part(made, 4, tupled(masks))


def hurt_by(source, made, name, conditions):
    """The set of the pairs (reader, number) that this name spoils by the CONDITIONS; raises NoName, then Stuck."""
    check_name(made, name)
    check_not_stuck(made[2], made[3])
    program = Program(made)
    return spoilt_reads(program, reads_kept(source, program, flow(source), tuple(conditions)), name)


def off_masks(source, made):
    """The ascending list of (name, conditions, done) by which a mask is not between; raises Stuck."""
    greatest = {name: mask for name, mask in greatest_masks(source, made)}
    masks = {name: mask for name, mask in tupled(made)[4]}
    found = []
    for name, least in least_masks(source, made):
        found.extend([(name, conditions, False) for conditions in least if conditions not in masks[name]])
        found.extend([(name, conditions, True) for conditions in masks[name] if conditions not in greatest[name]])
    return sorted(found)
