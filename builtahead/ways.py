"""Ways along pairs of names: what pairs lead to."""

from builtahead.values import set_of


def led_to(pairs, start):
    """The list of the names to which one pair or more lead from the start."""
    onward = {}
    for first, later in pairs:
        onward.setdefault(first, []).append(later)
    found, waiting = [], list(onward.get(start, []))
    while waiting:
        name = waiting.pop()
        if name not in found:
            found.append(name)
            waiting.extend(onward.get(name, []))
    return found


def ring_names(pairs):
    """The set of the names to which pairs lead from themselves."""
    return set_of([first for first, _ in pairs if first in led_to(pairs, first)])
