"""What the tests share: calls in all kinds of ways, examples of the document, things of all kinds."""

import copy
import importlib
import inspect
import pathlib
import random

from builtahead.errors import MadeError

# What no function with a parameter called thing may take for more than it is.
ODD_THINGS = [
    None, True, False, 0, 1, -1, 10 ** 40, "", "a", "begin", (), [], ((),), [()], ("a",), ["a"], ("a", "a"),
    ("a", 0), ("a", True), ("a", False), ["a", 0], (("a", 0),), (("a", True),), (("a", None),), (("a", -1),),
    (("a", "b"),), (["a", 0],), (("a", 0, "begin"),), (("a", False, "begin"),), (("a", 0, 0),), (("a", 0, True),),
    ((None, 0),), ((("a",), 0),), ((0, "a"),), (1, ()), (True, ()), (1, []), ("a", (), ()), ("a", "b", "c"),
    (None,), (None, None), (("a", 0), None), ((((((((((((),),),),),),),),),),),), ("ab", 10 ** 50), ("A", 0),
    ("abcdefghi", 0), ("", 0), ("a.", 0), ((), ()), ([], []), ((), [], "x"), ("a", [], ()), ("a", (), []),
]


def listed(value):
    """The value with a list in the place of each tuple."""
    if isinstance(value, (list, tuple)):
        return [listed(part) for part in value]
    return value


def has_list(value):
    """Whether there is a list within the value."""
    return isinstance(value, list) or (isinstance(value, tuple) and any(has_list(part) for part in value))


def outcome(function, *args, **words):
    """What the call returned, or raised, as a text that tells True from 1 and a list from a tuple."""
    try:
        return "returns " + repr(function(*args, **words))
    except MadeError as error:
        return "raises " + told_error(error)


def told_error(error):
    """An error as the document writes it."""
    values = ", ".join(f"{name}={value!r}" for name, value in vars(error).items())
    return f"{type(error).__name__}({values})"


def call(test, function, *args):
    """Calls with tuples, with lists, by names; checks that all give the same; returns or raises what came."""
    words = list(inspect.signature(function).parameters)
    expected = outcome(function, *args)
    kinds = [args[at] if word == "thing" else listed(args[at]) for at, word in enumerate(words)]
    test.assertEqual(outcome(function, *kinds), expected, (function.__name__, args))
    before = copy.deepcopy(kinds)
    test.assertEqual(outcome(function, **dict(zip(words, kinds))), expected, (function.__name__, args))
    test.assertEqual(repr(kinds), repr(before), "arguments must not be changed")
    result = function(*args)
    again = function(*args)
    if isinstance(result, list):
        test.assertIsNot(result, again, "a list that is returned must be new")
        again.append(None)
        test.assertEqual("returns " + repr(function(*args)), expected)
    test.assertFalse(has_list(tuple(result)) if isinstance(result, (list, tuple)) else False, result)
    return result


def raises(test, error, function, *args):
    """Checks that the call, also with lists and by names, raises just this error, written as in the document."""
    words = list(inspect.signature(function).parameters)
    kinds = [args[at] if word == "thing" else listed(args[at]) for at, word in enumerate(words)]
    test.assertEqual(outcome(function, *args), "raises " + error)
    test.assertEqual(outcome(function, *kinds), "raises " + error)
    test.assertEqual(outcome(function, **dict(zip(words, kinds))), "raises " + error)


def check_examples(test, text, names):
    """Does the rows of a text that begin with >>>, and compares what stands below each."""
    rows = [row.removeprefix("    ") for row in text.strip("\n").split("\n")]
    values = dict(names)
    for row, below in zip(rows, [*rows[1:], ""]):
        if not row.startswith(">>> "):
            continue
        code = row.removeprefix(">>> ")
        if below == "" or below.startswith(">>> "):
            exec(code, values)
        else:
            test.assertEqual(done(code, values), below, code)


def names_for(file):
    """The functions of the whole package, as the examples of this file call them."""
    found = {}
    for path in sorted((pathlib.Path(__file__).resolve().parent.parent / "builtahead").glob("*.py")):
        module = importlib.import_module("builtahead." + path.stem)
        found.update({name: part for name, part in vars(module).items() if inspect.isfunction(part)})
    return {**found, **vars(importlib.import_module("builtahead." + file))}


def done(code, values):
    """What an expression gives, as the document writes it."""
    try:
        return repr(eval(code, values))
    except MadeError as error:
        return "raises " + told_error(error)


def thing_variants(thing):
    """Things that are not quite this one: lists for tuples, True for 1, more or fewer parts."""
    found = []
    if isinstance(thing, tuple):
        found.append(list(thing))
        for at, part in enumerate(thing):
            found.extend((*thing[:at], other, *thing[at + 1:]) for other in thing_variants(part))
            found.append(thing[:at] + thing[at + 1:])
            found.append(thing[:at] + (part,) + thing[at:])
    elif type(thing) is int:
        found.extend([bool(thing), -1 - thing, str(thing), None] if thing in (0, 1) else [-thing, None])
    elif type(thing) is bool:
        found.extend([int(thing), None])
    elif type(thing) is str:
        found.extend([thing.upper(), thing + " ", (thing,), None])
    return found


def check_things(test, function, args, right):
    """Checks that a function with thing, behind these arguments, answers True just where right says so."""
    for thing in ODD_THINGS:
        test.assertIs(function(*args, thing), right(thing), (function.__name__, args, thing))


def dice(seed):
    """Numbers that are the same each time."""
    return random.Random(seed)


def random_place(rng, arrays, steps, most):
    return rng.choice(arrays), rng.choice(steps), rng.randint(0, most)


def random_source(rng, arrays="xyz", steps=(0, 1, 1, 2, 3), most=4, conditions=("big", "c", "e")):
    """A SOURCE, even or not."""
    names = rng.sample(["a", "b", "d", "load", "mul", "s", "t", "zz"], rng.randint(1, 6))
    statements = []
    for name in names:
        guard = rng.choice([(), (), (rng.choice(conditions), rng.choice([True, False]))])
        reads = [random_place(rng, arrays, steps, most) for _ in range(rng.randint(0, 3))]
        statements.append((name, guard, random_place(rng, arrays, steps, most), tuple(reads)))
    return tuple(statements), tuple(sorted(rng.sample(names, rng.randint(0, len(names)))))


def random_tree(rng, conditions, names, depth):
    """A TREE, plain or not."""
    if depth == 0 or rng.random() < 0.25:
        return rng.choice([(), *((name, rng.randint(0, 2)) for name in names)])
    return rng.choice(conditions), random_tree(rng, conditions, names, depth - 1), random_tree(rng, conditions, names, depth - 1)


def random_rows(rng, names, hands=3):
    """Rows of all these names, some of them maybe ()."""
    rows = [[] for _ in range(rng.randint(1, hands))]
    for name in rng.sample(names, len(names)):
        rng.choice(rows).append(name)
    return tuple(tuple(row) for row in rows)


def random_waits(rng, names, most, far):
    """A set of waits."""
    found = {(rng.choice(names), rng.choice(names), rng.randint(0, far)) for _ in range(rng.randint(0, most))}
    return tuple(sorted(found))


def made_of(rows, waits):
    """A MADE with these rows and waits; each name is a step without reads, in a seat of its own."""
    names = sorted(name for row in rows for name in row)
    steps, masks = tuple((name, ()) for name in names), tuple((name, ((),)) for name in names)
    homes = tuple((name, ("seat", at)) for at, name in enumerate(names))
    return steps, (), rows, waits, masks, homes, ()


def all_subsets(names):
    """All sets of some of these names."""
    found = [()]
    for name in sorted(names):
        found += [(*part, name) for part in found]
    return sorted(found)
