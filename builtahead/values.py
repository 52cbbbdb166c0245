"""What numbers, NAMEs and sets are, and tuples for lists."""


def tupled(value):
    """The value with a tuple in the place of each list, at any depth."""
    if isinstance(value, (list, tuple)):
        return tuple([tupled(part) for part in value])
    return value


def is_name(thing):
    """Whether the thing is a NAME: 1 to 8 letters a to z."""
    if not (type(thing) is str and 1 <= len(thing) <= 8):
        return False
    return thing.isascii() and thing.isalpha() and thing.islower()


def is_natural(thing):
    """Whether the thing is a number from 0; True and False are none."""
    return type(thing) is int and thing >= 0


def ascends(parts):
    """Whether each part is greater than the one ahead."""
    return all([low < high for low, high in zip(parts, parts[1:])])


def is_set_of_names(thing):
    """Whether the thing is an ascending tuple of NAMEs."""
    return type(thing) is tuple and all([is_name(part) for part in thing]) and ascends(thing)


def set_of(parts):
    """The parts as an ascending tuple without duplicates."""
    return tuple(sorted(set(parts)))


def subsets(names):
    """The ascending list of all sets of some of these names."""
    found = [()]
    for name in names:
        found = found + [(*part, name) for part in found]
    return sorted(found)
