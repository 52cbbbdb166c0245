"""Ways along pairs of names: what pairs lead to, and what is left without a name."""

from builtahead.values import set_of


def led_to(pairs, start):
    """The list of the names to which one pair or more lead from the start."""
    onward = {}
    for first, later in pairs:
        onward.setdefault(first, []).append(later)
    found, waiting = [], list(onward.get(start, []))
    while waiting:
        name = waiting.pop()
        if name not in found:
            found.append(name)
            waiting.extend(onward.get(name, []))
    return found


def ring_names(pairs):
    """The set of the names to which pairs lead from themselves."""
    return set_of([first for first, _ in pairs if first in led_to(pairs, first)])


def pairs_without(pairs, name):
    """The set of the pairs without those of this name; those into it and on from it are put together."""
    into = [low for low, high in pairs if high == name]
    onward = [high for low, high in pairs if low == name]
    kept = [(low, high) for low, high in pairs if name not in (low, high)]
    return set_of(kept + [(low, high) for low in into for high in onward])
