"""Worlds that part: those in which a MADE tells something else than its SOURCE."""

from builtahead.buffers import buffer_names, meeting_widths
from builtahead.cases import Case, best_cause
from builtahead.flows import all_conditions, flow
from builtahead.hands import is_stuck
from builtahead.lastword import faults
from builtahead.machine import is_world, tells_right
from builtahead.meets import check_even
from builtahead.programs import Program
from builtahead.runs import run_with
from builtahead.values import tupled


def best_of_all(source, made, every):
    """Of the causes by some of these CONDITIONS one with the fewest turns: ((turns, pairs, cells), conditions)."""
    steps = flow(source)
    if is_stuck(made[2], made[3]):
        return None
    program = Program(made)
    found = [(best_cause(Case(source, steps, program, conditions)), conditions) for conditions in every]
    return min([pair for pair in found if pair[0] is not None], key=turns_of, default=None)


def turns_of(pair):
    """The turns of a cause with its CONDITIONS."""
    return pair[0][0]


def world_of(made, found):
    """A WORLD in which this cause, with its CONDITIONS, comes up; None without a cause."""
    if found is None:
        return None
    (turns, pairs, cells), conditions = found
    widths = tuple([(name, 1) for name in buffer_names(made)])
    if cells:
        widths = meeting_widths(made, *cells)
    return turns, conditions, widths, run_with(made, turns, pairs)


def parting_turns(source, made):
    """The fewest turns of a WORLD that parts; None if there is none; raises NotEven."""
    found = best_of_all(source, made, all_conditions(source))
    return None if found is None else turns_of(found)


def part_world(source, made):
    """A WORLD that parts, with the fewest turns; None if there is none; raises NotEven."""
    return world_of(made, best_of_all(source, made, all_conditions(source)))


def fault_world(source, made, fault):
    """A WORLD with the CONDITIONS of this FAULT that parts; None if it is no FAULT, or stuck; raises NotEven."""
    told = tupled(fault)
    if told not in faults(source, made):
        return None
    return world_of(made, best_of_all(source, made, [told[1]]))


def is_part_world(source, made, thing):
    """Whether the thing is a WORLD that parts; raises NotEven."""
    check_even(source)
    return is_world(source, made, thing) and not tells_right(source, made, thing)
