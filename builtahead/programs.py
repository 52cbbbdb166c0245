"""Programs: a MADE with its parts by name and its distances at hand."""

from builtahead.buffers import do_meet
from builtahead.hands import distances
from builtahead.values import tupled


class Program:
    """A MADE with its parts by name and its distances at hand."""

    def __init__(self, made):
        steps, moves, rows, waits, masks, homes, order = tupled(made)
        self.trees = {name: trees for name, trees in steps}
        self.places = {name: place for name, place, _ in moves}
        for name, _, tree in moves:
            self.trees[name] = (tree,)
        self.near = distances(rows, waits)
        self.masks = {name: mask for name, mask in masks}
        self.homes = {name: home for name, home in homes}
        self.order = order

    def is_done(self, name, conditions):
        """Whether this name, if there is such a one, is done by these CONDITIONS."""
        return conditions in self.masks.get(name, ())

    def cells(self, name):
        """How many cells this name has; a seat is one."""
        home = self.homes[name]
        return home[1] if home[0] == "cells" else 1

    def has_seat_of(self, name, other):
        """Whether this name, if there is such a one, has the same seat as the other one."""
        home = self.homes.get(name)
        return home is not None and home[0] == "seat" and home == self.homes[other]

    def meet(self, one, other):
        """Whether both have the same seat, or buffers that are not chained."""
        return do_meet(self.homes, self.order, one, other)

    def way_sum(self, one, other):
        """The distance E(one, other): 0 from a name to itself; None if there is no way."""
        return 0 if one == other else self.near.get((one, other))

    def is_within(self, name, other, writer, back, bound):
        """Whether from the name to the other one and on to the writer it is, with back, at most the bound."""
        there = self.way_sum(name, other)
        on = self.way_sum(other, writer)
        return there is not None and on is not None and there + on + back <= bound
