"""Cases: how and when a read of a MADE may find something else than it must, by some CONDITIONS."""

from builtahead.flows import leaf
from builtahead.lastword import others_looked_at, told_faults
from builtahead.needs import least_sums
from builtahead.runs import BEGIN, END, is_before
from builtahead.sources import cell_of
from builtahead.values import tupled


class Case:
    """A SOURCE and a Program of a MADE of it by some CONDITIONS."""

    def __init__(self, source, steps, program, conditions):
        self.program = program
        self.conditions = conditions
        self.reads = {name: reads for name, _, _, reads in tupled(source)[0]}
        self.wanted = {name: trees for name, trees in steps}
        self.sums = least_sums(source, steps, conditions)
        self.tells_others = told_faults(source, program, conditions) != []

    def is_done(self, name):
        """Whether this name is done."""
        return self.program.is_done(name, self.conditions)

    def lead(self, name, number):
        """What this read of the MADE leads to."""
        return leaf(self.program.trees[name][number], self.conditions)

    def first_letter(self, name, number, turn):
        """The first letter that this read may tell in this turn."""
        places = self.program.places
        place = places[name] if name in places else self.reads[name][number]
        return ("first", *cell_of(place, turn))

    def root_wanted(self, name, number, turn):
        """The ROOT that this read of a STATEMENT finds in this turn of the SOURCE."""
        found = leaf(self.wanted[name][number], self.conditions)
        if found == () or turn < found[1]:
            return self.first_letter(name, number, turn)
        return "step", found[0], turn - found[1]

    def must(self, one, other):
        """Whether the one moment must be ahead of the other one."""
        return is_before(self.program.near, one, other)


def step_read(case, found, turn, root):
    """The (name, turn) that this leaf reads in this turn if it finds the ROOT; None if it surely does not."""
    kept, d = found
    program = case.program
    if kept in program.places:
        return kept, turn - d
    if program.homes[kept][0] == "cells":
        return (kept, turn - d) if root == ("step", kept, turn - d) else None
    return root[1:] if root[0] == "step" and program.has_seat_of(root[1], kept) else None


def over_turn(case, step, other):
    """The least turn in which the other name may write where this (name, turn) wrote, behind it."""
    writer, turn = step
    if other == writer:
        return turn + case.program.cells(writer)
    distance = case.program.near.get((other, writer))
    return 0 if distance is None else max(0, turn - distance + 1)


def over_causes(case, begin, step):
    """The causes by which something is written over what this (name, turn) wrote, ahead of this begin."""
    found, written = [], (*step, END)
    for other in others_looked_at(case.program, case.conditions, step[0]):
        turn = over_turn(case, step, other)
        middle = (other, turn, END)
        if not (case.must(begin, middle) or case.must(begin, written)):
            is_met = other != step[0] and case.program.homes[other][0] == "cells"
            found.append((turn, ((written, middle), (middle, begin)), (*step, other, turn) if is_met else ()))
    return found


def causes(case, name, number, turn, root):
    """The causes by which this read may find something else than the ROOT: (turn, pairs, cells).

    turn is the last one that is needed besides that of the read, pairs are moments the first of which must come
    ahead, and cells, if any, are two that must meet.
    """
    found = case.lead(name, number)
    if found == () or turn < found[1]:
        return [] if case.first_letter(name, number, turn) == root else [(0, (), ())]
    step = step_read(case, found, turn, root)
    if step is None or not case.is_done(step[0]):
        return [(0, (), ())]
    begin, written = (name, turn, BEGIN), (*step, END)
    late = [] if case.must(written, begin) else [(0, ((begin, written),), ())]
    # What a move hands on may be wrong, too; whether it comes whole or not, the ROOT does not come then.
    deeper = causes(case, step[0], 0, step[1], root) if step[0] in case.program.places else []
    return late + over_causes(case, begin, step) + deeper


def most_turn(case, name, number):
    """A turn by which each cause of this read has come up, if there is any."""
    wanted = leaf(case.wanted[name][number], case.conditions)
    total = wanted[1] + 1 if wanted else 1
    found = case.lead(name, number)
    while found:
        total = total + found[1]
        found = case.lead(found[0], 0) if found[0] in case.program.places else ()
    return total


def best_cause(case):
    """Of the causes by which something else is told one with the fewest turns: (turns, pairs, cells); None without."""
    best = (1, (), ()) if case.tells_others else None
    kept = [name for name in sorted(case.sums) if name in case.program.trees and case.is_done(name)]
    reads = [(name, number) for name in kept for number in range(len(case.wanted[name]))]
    for name, number in reads:
        for turn in range(most_turn(case, name, number) + 1):
            # The STORY has a row of this STEP from so many turns on.
            fewest = turn + case.sums[name] + 1
            if best is not None and best[0] <= fewest:
                break
            for last, pairs, cells in causes(case, name, number, turn, case.root_wanted(name, number, turn)):
                turns = max(fewest, last + 1)
                if best is None or turns < best[0]:
                    best = (turns, pairs, cells)
    return best
