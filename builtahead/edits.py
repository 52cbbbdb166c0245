"""Edits: a MADE changed deed by deed, and everything taken back."""

from builtahead.errors import NoName, NoNumber, NothingDone, NotMade
from builtahead.hands import is_stuck
from builtahead.lastword import first_fault, is_right
from builtahead.mades import (
    check_name, home_of, is_made, mask_of, trees_of, with_home, with_mask, with_part, with_rows, with_wait,
    without_wait,
)
from builtahead.meets import check_even
from builtahead.rows import (
    check_neighbours, check_number, check_spot, rows_exchanged, rows_moved, rows_without, spot_of,
)
from builtahead.shapes import is_any_tree, is_home, is_mask
from builtahead.values import is_name, is_natural, set_of, tupled

PUT_WAIT = "put wait"
DROP_WAIT = "drop wait"
PUT_PAIR = "put pair"
DROP_PAIR = "drop pair"
EXCHANGE = "exchange"
MOVE = "move"
HOME = "home"
MASK = "mask"
TREE = "tree"


def is_edit(thing):
    """Whether the thing is an EDIT, with whichever NAMES and numbers."""
    if type(thing) is not tuple or len(thing) == 0 or type(thing[0]) is not str:
        return False
    kinds = {
        PUT_WAIT: (is_name, is_name, is_natural), DROP_WAIT: (is_name, is_name, is_natural),
        PUT_PAIR: (is_name, is_name), DROP_PAIR: (is_name, is_name),
        EXCHANGE: (is_natural, is_natural), MOVE: (is_name, is_natural, is_natural),
        HOME: (is_name, is_home), MASK: (is_name, is_mask), TREE: (is_name, is_natural, is_any_tree),
    }
    checks = kinds.get(thing[0])
    if checks is None or len(checks) != len(thing) - 1:
        return False
    return all([check(part) for check, part in zip(checks, thing[1:])])


def check_edit(made, edit):
    """Raises NoName for the first name told that the MADE has not, then NoNumber for a hand, a place, a TREE."""
    word, rows = edit[0], made[2]
    # Names are the only strings that stand in an EDIT by themselves.
    for part in edit[1:]:
        if type(part) is str:
            check_name(made, part)
    if word == EXCHANGE:
        check_neighbours(rows, edit[1], edit[2])
    elif word == MOVE:
        check_spot(rows_without(rows, edit[1]), edit[2], edit[3])
    elif word == TREE:
        check_number(edit[2], len(trees_of(made, edit[1])))


def with_pair(made, low, high):
    """The MADE with this pair of order."""
    return with_part(made, 6, set_of([*made[6], (low, high)]))


def without_pair(made, low, high):
    """The MADE without this pair of order."""
    return with_part(made, 6, tuple([pair for pair in made[6] if pair != (low, high)]))


def with_exchange(made, hand, place):
    """The MADE in which the names at this place and behind it have changed places."""
    return with_rows(made, rows_exchanged(made[2], hand, place))


def with_spot(made, name, hand, place):
    """The MADE in which this name was taken out of its row and stands here."""
    return with_rows(made, rows_moved(made[2], name, hand, place))


def with_tree(made, name, number, tree):
    """The MADE with this TREE for this read."""
    steps, moves = made[:2]
    changed = []
    for step, trees in steps:
        if step == name:
            trees = (*trees[:number], tree, *trees[number + 1:])
        changed.append((step, trees))
    others = [(move, place, tree if move == name else own) for move, place, own in moves]
    return (tuple(changed), tuple(others), *made[2:])


def behind(made, edit):
    """The MADE behind this EDIT, whether it is MADE of anything or not."""
    actions = {
        PUT_WAIT: with_wait, DROP_WAIT: without_wait, PUT_PAIR: with_pair, DROP_PAIR: without_pair,
        EXCHANGE: with_exchange, MOVE: with_spot, HOME: with_home, MASK: with_mask, TREE: with_tree,
    }
    word, *told = edit
    action = actions[word]
    return action(made, *told)


def edited(source, made, edit):
    """The MADE behind this EDIT; raises NoName, NoNumber, then NotMade."""
    own, deed = tupled(made), tupled(edit)
    check_edit(own, deed)
    found = behind(own, deed)
    if not is_made(source, found):
        raise NotMade()
    return found


def undone_by(made, edit):
    """The EDIT that makes the MADE again what it was; raises NoName, then NoNumber."""
    own, deed = tupled(made), tupled(edit)
    check_edit(own, deed)
    word = deed[0]
    # An exchange takes itself back, and so does what changes nothing.
    if word == EXCHANGE or behind(own, deed) == own:
        return deed
    opposites = {PUT_WAIT: DROP_WAIT, DROP_WAIT: PUT_WAIT, PUT_PAIR: DROP_PAIR, DROP_PAIR: PUT_PAIR}
    if word in opposites:
        return (opposites[word], *deed[1:])
    name = deed[1]
    if word == MOVE:
        return (MOVE, name, *spot_of(own[2], name))
    if word == HOME:
        return HOME, name, home_of(own, name)
    if word == MASK:
        return MASK, name, mask_of(own, name)
    return TREE, name, deed[2], trees_of(own, name)[deed[2]]


def all_edited(source, made, edits):
    """The list of the MADES behind each of these EDITS; None if one is refused."""
    found, here = [], made
    try:
        for edit in edits:
            here = edited(source, here, edit)
            found.append(here)
    except (NoName, NoNumber, NotMade):
        return None
    return found


def do_commute(source, made, one, other):
    """Whether both EDITS, whichever comes first, are not refused and lead to the same."""
    found = all_edited(source, made, (one, other))
    turned = all_edited(source, made, (other, one))
    return found is not None and turned is not None and found[-1] == turned[-1]


def may_wait(made, one, other, distance):
    """Whether the MADE with this wait is not stuck; raises NoName."""
    check_name(made, one)
    check_name(made, other)
    return not is_stuck(made[2], [*made[3], (one, other, distance)])


def way_of_waits(source, one, other):
    """The EDITS that put the waits that other alone has, then drop those of one alone; None if both make it stuck."""
    own, wanted = tupled(one)[3], tupled(other)[3]
    if is_stuck(one[2], [*own, *wanted]):
        return None
    puts = [(PUT_WAIT, *wait) for wait in wanted if wait not in own]
    drops = [(DROP_WAIT, *wait) for wait in own if wait not in wanted]
    return tuple(puts + drops)


def is_right_way(source, one, other, thing):
    """Whether the thing is a tuple of EDITS that lead from one to other by right MADES; raises NotEven."""
    check_even(source)
    if type(thing) is not tuple or not all([is_edit(part) for part in thing]):
        return False
    found = all_edited(source, one, thing)
    if found is None:
        return False
    last = found[-1] if found else tupled(one)
    return last == tupled(other) and all([is_right(source, made) for made in found])


class Watch:
    """A MADE of a SOURCE that is changed by EDITS, each of which can be taken back."""

    def __init__(self, source, made):
        if not is_made(tupled(source), tupled(made)):
            raise NotMade()
        self._source = tupled(source)
        # The MADE at the beginning, and the one behind each EDIT.
        self._mades = [tupled(made)]
        self._told = []

    @property
    def source(self):
        """The SOURCE."""
        return self._source

    @property
    def made(self):
        """The MADE as it is."""
        return self._mades[-1]

    @property
    def told(self):
        """The tuple of the EDITS done and not taken back."""
        return tuple(self._told)

    def __len__(self):
        """How many EDITS are done and not taken back."""
        return len(self._told)

    def __eq__(self, other):
        """Whether the other one is a Watch with the same SOURCE, MADE and EDITS."""
        if not isinstance(other, Watch):
            return False
        return self.source == other.source and self.made == other.made and self.told == other.told

    def right(self):
        """Whether the MADE is right; raises NotEven."""
        return is_right(self._source, self.made)

    def fault(self):
        """The first FAULT of the MADE; None if there is none; raises NotEven."""
        return first_fault(self._source, self.made)

    def do(self, edit):
        """Does this EDIT; raises NoName, NoNumber, then NotMade."""
        self._mades.append(edited(self._source, self.made, edit))
        self._told.append(tupled(edit))

    def back(self):
        """Takes back the last EDIT; raises NothingDone if there is none."""
        if len(self._told) == 0:
            raise NothingDone()
        self._mades.pop()
        self._told.pop()

    def back_alone(self, number):
        """Takes back the EDIT with this number, the later ones done again; raises NoNumber, then as do."""
        check_number(number, len(self._told))
        later = self._told[number + 1:]
        mades = self._mades[:number + 1]
        for edit in later:
            mades.append(edited(self._source, mades[-1], edit))
        self._mades = mades
        self._told = self._told[:number] + later

    def twin(self):
        """An equal Watch with the same EDITS to take back, that shares nothing with this one."""
        other = Watch(self._source, self._mades[0])
        other._mades = list(self._mades)
        other._told = list(self._told)
        return other
