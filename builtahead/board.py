"""A board: MADES with their SOURCES and NAMES, put, changed and taken back deed by deed."""

from builtahead.edits import edited
from builtahead.errors import Known, NoMade, NothingDone, NotMade
from builtahead.lastword import is_right
from builtahead.mades import is_made
from builtahead.values import tupled


def but_for_waits(source, made):
    """The parts of a pair without the waits."""
    return source, made[:3], made[4:]


class Board:
    """MADES, each with its SOURCE and a NAME, and all deeds that can be undone."""

    def __init__(self):
        # By NAME: (SOURCE, MADE). Each deed puts a new dict in its place, so that of the deed before can come back.
        self._pairs = {}
        self._past = []

    @property
    def names(self):
        """The set of the NAMES."""
        return tuple(sorted(self._pairs))

    @property
    def deeds(self):
        """How many deeds can be undone."""
        return len(self._past)

    def __len__(self):
        """How many MADES there are."""
        return len(self._pairs)

    def __contains__(self, name):
        """Whether there is a MADE with this NAME."""
        return name in self._pairs

    def __getitem__(self, name):
        """The pair (source, made) with this NAME; raises NoMade if there is none."""
        if name not in self._pairs:
            raise NoMade(name)
        return self._pairs[name]

    def __iter__(self):
        """Raises TypeError: a Board is not gone through."""
        raise TypeError("a board is not gone through")

    def __eq__(self, other):
        """Whether the other one is a Board with the same NAMES, each with the same pair."""
        if not isinstance(other, Board):
            return False
        return self._pairs == other._pairs

    def _check(self, name):
        """Raises NoMade if there is no MADE with this NAME."""
        if name not in self._pairs:
            raise NoMade(name)

    def _check_free(self, name):
        """Raises Known if there is a MADE with this NAME."""
        if name in self._pairs:
            raise Known(name)

    def _others(self, name):
        """A new dict of all pairs but for the one with this NAME."""
        return {other: self._pairs[other] for other in self._pairs if other != name}

    def _done(self, pairs):
        """Puts this dict in the place of the one that is there: one deed more."""
        self._past.append(self._pairs)
        self._pairs = pairs

    def put(self, name, source, made):
        """Puts one MADE more; raises Known, then NotMade."""
        self._check_free(name)
        pair = (tupled(source), tupled(made))
        if not is_made(pair[0], pair[1]):
            raise NotMade()
        pairs = self._others(name)
        pairs[name] = pair
        self._done(pairs)

    def drop(self, name):
        """Takes this MADE away; raises NoMade."""
        self._check(name)
        self._done(self._others(name))

    def rename(self, name, new):
        """Gives this MADE a new NAME; raises NoMade, then Known."""
        self._check(name)
        self._check_free(new)
        pairs = self._others(name)
        pairs[new] = self._pairs[name]
        self._done(pairs)

    def edit(self, name, edit):
        """Puts the MADE behind this EDIT in the place of this one; raises NoMade, NoName, NoNumber, NotMade."""
        self._check(name)
        source, made = self._pairs[name]
        pairs = self._others(name)
        pairs[name] = (source, edited(source, made, edit))
        self._done(pairs)

    def undo(self):
        """Undoes the last deed that is not undone yet; raises NothingDone."""
        if len(self._past) == 0:
            raise NothingDone()
        self._pairs = self._past.pop()

    def twin(self):
        """An equal Board without deeds, that shares nothing with this one."""
        other = Board()
        other._pairs = {name: self._pairs[name] for name in self._pairs}
        return other

    def right(self):
        """The set of the NAMES whose MADE is right; raises NotEven."""
        found = []
        for name in self.names:
            source, made = self._pairs[name]
            if is_right(source, made):
                found.append(name)
        return tuple(found)

    def of_source(self, source):
        """The set of the NAMES with this SOURCE."""
        wanted = tupled(source)
        return tuple([name for name in self.names if self._pairs[name][0] == wanted])

    def in_seat(self, number):
        """The set of the pairs (NAME, name) of a MADE and a name with this seat."""
        found = []
        for name in self.names:
            homes = self._pairs[name][1][5]
            found.extend([(name, part) for part, home in homes if home == ("seat", number)])
        return tuple(found)

    def alike(self, name):
        """The set of the other NAMES with the same pair but for waits; raises NoMade."""
        self._check(name)
        source, made = self._pairs[name]
        wanted = but_for_waits(source, made)
        found = []
        for other in self.names:
            source, made = self._pairs[other]
            if other != name and but_for_waits(source, made) == wanted:
                found.append(other)
        return tuple(found)
