"""Words of texts: numbers, PLACES, and a NAME with a number."""

from builtahead.values import is_name


def number_in(word):
    """The number that the word tells, without a needless 0 in front; None if it tells none."""
    if not (word.isascii() and word.isdigit()):
        return None
    if word[0] == "0" and len(word) > 1:
        return None
    return int(word)


def name_and_number(word, sign):
    """The pair that a NAME, this sign and a number tell; None if the word is not so written."""
    name, _, digits = word.partition(sign)
    number = number_in(digits)
    if number is None or not is_name(name):
        return None
    return name, number


def place_word(place):
    """The word array.a.b of a PLACE."""
    array, a, b = place
    return f"{array}.{a}.{b}"


def place_in(word):
    """The PLACE that a word array.a.b tells; None if it is not so written."""
    array, _, rest = word.partition(".")
    first, _, second = rest.partition(".")
    a, b = number_in(first), number_in(second)
    if a is None or b is None or not is_name(array):
        return None
    return array, a, b
