"""TREES: where each read comes from, by conditions."""

from builtahead.meets import check_even, read_place, writers_asked
from builtahead.sources import conditions_of, guard_of, reads_of, statement_names
from builtahead.values import is_name, is_natural, set_of, subsets, tupled


def all_conditions(source):
    """The ascending list of all CONDITIONS of a SOURCE."""
    return subsets(conditions_of(source))


def leaf(tree, conditions):
    """What the TREE leads to by the conditions."""
    part = tree
    while len(part) == 3:
        condition, no, yes = part
        part = yes if condition in conditions else no
    return tupled(part)


def parts_within(tree):
    """The list of the TREE and of all TREES within it."""
    found, waiting = [], [tree]
    while waiting:
        part = waiting.pop()
        found.append(part)
        if len(part) == 3:
            waiting.extend(part[1:])
    return found


def leaves(tree):
    """The set of all that the TREE leads to by some conditions."""
    return set_of([part for part in parts_within(plain_tree(tree)) if len(part) < 3])


def asked_in(tree):
    """The set of all conditions that stand in the TREE."""
    return set_of([part[0] for part in parts_within(tree) if len(part) == 3])


def leaf_names(thing):
    """The list of what the leaves of the thing name; None if it is not built as a TREE."""
    found, waiting = [], [thing]
    while waiting:
        part = waiting.pop()
        if type(part) is not tuple or len(part) not in (0, 2, 3):
            return None
        if len(part) == 3:
            if not is_name(part[0]):
                return None
            waiting.extend(part[1:])
        elif len(part) == 2:
            if not is_natural(part[1]):
                return None
            found.append(part[0])
    return found


def is_tree(names, thing):
    """Whether the thing is a TREE whose leaves name some of these names."""
    found = leaf_names(thing)
    return found is not None and all([name in names for name in found])


def side(tree, condition, at):
    """What a plain TREE goes on to at its first condition, if it is this one; otherwise itself."""
    return tree[at] if len(tree) == 3 and tree[0] == condition else tree


def joined(condition, no, yes):
    """The plain TREE that is alike to (condition, no, yes), no and yes plain ones."""
    if no == yes:
        return no
    first = min([condition] + [part[0] for part in (no, yes) if len(part) == 3])
    low, high = side(no, first, 1), side(yes, first, 2)
    if first != condition:
        low = joined(condition, low, side(yes, first, 1))
        high = joined(condition, side(no, first, 2), high)
    return low if low == high else (first, low, high)


def plain_tree(tree):
    """The plain TREE that is alike."""
    if len(tree) < 3:
        return tupled(tree)
    condition, no, yes = tree
    return joined(condition, plain_tree(no), plain_tree(yes))


def telling_conditions(one, other):
    """The least set of asked conditions by which the two TREES differ; None if they are alike."""
    asked = set_of(asked_in(one) + asked_in(other))
    left, right = plain_tree(one), plain_tree(other)
    if left == right:
        return None
    found = []
    for condition in asked:
        if leaf(left, ()) != leaf(right, ()):
            return tuple(found)
        # A set that goes on with this condition is less than all that leave it out.
        with_left, with_right = side(left, condition, 2), side(right, condition, 2)
        if with_left != with_right:
            found.append(condition)
            left, right = with_left, with_right
        else:
            left, right = side(left, condition, 1), side(right, condition, 1)
    return tuple(found)


def later_tree(tree, d):
    """The TREE with so much more in each leaf."""
    if len(tree) == 0:
        return ()
    if len(tree) == 2:
        name, distance = tree
        return name, distance + d
    condition, no, yes = tree
    return condition, later_tree(no, d), later_tree(yes, d)


def tree_asked(source, name, number):
    """As tree_of_read, for a read of a SOURCE that is known to be even."""
    tree = ()
    # The first writer that acts is read, so each one goes on top of those asked behind it.
    for writer, distance in writers_asked(source, name, number)[::-1]:
        guard = guard_of(source, writer)
        if guard == ():
            tree = (writer, distance)
        elif guard[1]:
            tree = (guard[0], tree, (writer, distance))
        else:
            tree = (guard[0], (writer, distance), tree)
    return plain_tree(tree)


def tree_of_read(source, name, number):
    """The plain TREE of this read; raises NoName, NoNumber, then NotEven."""
    read_place(source, name, number)
    check_even(source)
    return tree_asked(source, name, number)


def flow(source):
    """The FLOW: an ascending tuple of pairs (name, TREES)."""
    check_even(source)
    found = []
    for name in sorted(statement_names(source)):
        trees = [tree_asked(source, name, number) for number in range(len(reads_of(source, name)))]
        found.append((name, tuple(trees)))
    return tuple(found)
