"""MADES and WORLDS of all kinds, and a machine played by hand, unit by unit, from the words of the document."""

import itertools

from builtahead.flows import all_conditions, flow
from builtahead.hands import least_gap
from builtahead.mades import is_made, names_in, plain_made, with_home, with_rows, with_waits
from builtahead.meets import is_even
from builtahead.needs import needed
from builtahead.numbers import least_numbers
from builtahead.sources import acts
from tests.tools import random_place, random_rows, random_waits

MOST_TURNS = 10 ** 6


def buffer(cells):
    """A home with so many cells."""
    return ("cells", cells, *least_numbers(cells, MOST_TURNS))


def even_source(rng, most=3, arrays="xy", steps=(0, 1, 1, 1, 2), far=2):
    """An even SOURCE with something told, many reads of which meet what is written."""
    while True:
        names = rng.sample(["a", "b", "c", "d"], rng.randint(1, most))
        asked, statements = rng.choice([["c"], ["c"], ["c", "e"]]), []
        # With one step for each array places meet often.
        step = {array: rng.choice(steps) for array in arrays}

        def place():
            array, a, b = random_place(rng, arrays, steps, far)
            return (array, step[array], b) if rng.random() < 0.9 else (array, a, b)
        for name in names:
            guard = rng.choice([(), (), (rng.choice(asked), rng.choice([True, False]))])
            reads = tuple(place() for _ in range(rng.randint(0, 2)))
            statements.append((name, guard, place(), reads))
        source = (tuple(statements), tuple(sorted(rng.sample(names, rng.randint(1, len(names))))))
        if is_even(source):
            return source


def earlier(tree, d):
    """The TREE with so much less in each leaf, no less than 0."""
    if len(tree) == 3:
        return tree[0], earlier(tree[1], d), earlier(tree[2], d)
    return (tree[0], max(0, tree[1] - d)) if tree else ()


def with_moves(rng, source, steps):
    """Steps some reads of which go through a MOVE, and these MOVES, most of them right ones."""
    trees = {name: list(found) for name, found in steps}
    reads = {name: found for name, _, _, found in source[0]}
    moves = []
    for move in "mn"[:rng.choice([0, 0, 1, 1, 2])]:
        some = [(name, at) for name in trees for at in range(len(trees[name]))]
        for name, at in rng.sample(some, min(len(some), rng.choice([1, 1, 2]))):
            d = rng.choice([0, 0, 0, 1])
            array, a, b = reads[name][at]
            place = (array, a, b + a * d) if rng.random() < 0.8 else random_place(rng, "xy", (0, 1), 2)
            row = (move, place, earlier(trees[name][at], d))
            trees[name][at] = (move, d)
        if some:
            moves.append(row)
    return [(name, tuple(trees[name])) for name in trees], moves


def random_leaf(rng, names):
    """A TREE of one leaf, or of a condition and one."""
    leaf = (rng.choice(names), rng.randint(0, 2))
    return rng.choice([(), leaf, leaf, ("c", (), leaf), ("c", leaf, ())])


def bent(rng, steps, moves, names):
    """These steps and moves with one TREE another one, now and then."""
    steps, moves = list(steps), list(moves)
    if rng.random() < 0.3:
        at = rng.randrange(len(steps))
        name, trees = steps[at]
        which = rng.randrange(len(trees)) if trees else 0
        steps[at] = name, tuple(random_leaf(rng, names) if k == which else tree for k, tree in enumerate(trees))
    if moves and rng.random() < 0.3:
        at = rng.randrange(len(moves))
        moves[at] = (*moves[at][:2], random_leaf(rng, names))
    return steps, moves


def some_rows(rng, source, names):
    """Rows of these names, now and then in the order of the SOURCE."""
    if rng.random() < 0.5:
        return random_rows(rng, names, rng.choice([1, 2, 2, 3]))
    order = [statement[0] for statement in source[0] if statement[0] in names]
    for move in [name for name in names if name not in order]:
        order.insert(rng.randint(0, len(order)), move)
    return (tuple(order),) if rng.random() < 0.5 else (tuple(order[::2]), tuple(order[1::2]))


def random_mask(rng, every, mask):
    """This mask, now and then another one."""
    if rng.random() < 0.12:
        return tuple(sorted(rng.sample(every, rng.randint(0, len(every)))))
    return tuple(every) if rng.random() < 0.1 else mask


def random_order(rng, names):
    """Some pairs of these names without a ring."""
    names, chance = rng.sample(names, len(names)), rng.choice([0, 0.5, 1])
    return tuple(sorted(pair for pair in itertools.combinations(names, 2) if rng.random() < chance))


def random_made(rng, source, most_cells=3):
    """A MADE of the SOURCE, right or wrong, stuck or not."""
    while True:
        plain = plain_made(source)
        steps = [pair for pair in plain[0] if rng.random() < 0.9] or list(plain[0])
        steps, moves = with_moves(rng, source, steps)
        names = [name for name, _ in steps] + [move[0] for move in moves]
        steps, moves = bent(rng, steps, moves, names)
        every, masks = all_conditions(source), dict(plain[4])
        homes = {name: buffer(rng.randint(1, most_cells)) for name in names}
        for name, _ in steps:
            if rng.random() < 0.5:
                homes[name] = ("seat", rng.randint(0, 2))
        made = (
            tuple(sorted(steps)), tuple(sorted(moves)), some_rows(rng, source, names),
            random_waits(rng, names, rng.choice([0, 2, 4, 5]), 2),
            tuple((name, random_mask(rng, every, masks.get(name, tuple(every)))) for name in sorted(names)),
            tuple(sorted(homes.items())), random_order(rng, [name for name in names if homes[name][0] == "cells"]),
        )
        if is_made(source, made):
            return made


def safe_made(rng, source):
    """A MADE of the SOURCE that is not far from right: waits enough for the order of its turn, a chain of buffers."""
    made = plain_made(source)
    names = names_in(made)
    made = with_rows(made, some_rows(rng, source, list(names)))
    order = [statement[0] for statement in source[0]]
    ahead = [(one, other, 0) for one, other in zip(order, order[1:])] + [(order[-1], order[0], rng.choice([1, 1, 2]))]
    made = with_waits(made, tuple(wait for wait in ahead if rng.random() < 0.9))
    if rng.random() < 0.6:
        for name in names:
            if rng.random() < 0.5:
                made = with_home(made, name, rng.choice([("seat", rng.randint(0, 2)), buffer(rng.randint(1, 3))]))
    boxes = [name for name, home in made[5] if home[0] == "cells"]
    return (*made[:6], random_order(rng, boxes))


def near_made(rng, source):
    """A MADE that is not far from right, its names in the order of the SOURCE."""
    made = plain_made(source)
    order = [statement[0] for statement in source[0]]
    ahead = [(one, other, 0) for one, other in zip(order, order[1:])] + [(order[-1], order[0], rng.choice([1, 1, 2]))]
    made = with_rows(made, some_rows(rng, source, list(names_in(made))))
    made = with_waits(made, tuple(wait for wait in ahead if rng.random() < 0.9))
    return made if rng.random() < 0.5 else (*made[:6], random_order(rng, list(names_in(made))))


def led_by(tree, conditions):
    """What the TREE leads to."""
    while len(tree) == 3:
        tree = tree[2] if tree[0] in conditions else tree[1]
    return tree


class HandWord:
    """The FAULTS of a MADE by some CONDITIONS, want by want, in the words of [16]."""

    def __init__(self, source, made, conditions):
        self.source, self.made, self.conditions = source, made, conditions
        self.trees = {**dict(made[0]), **{name: (tree,) for name, _, tree in made[1]}}
        self.places = {name: place for name, place, _ in made[1]}
        self.homes = dict(made[5])
        self.kept, self.found = set(), set()
        reads = {name: places for name, _, _, places in source[0]}
        for name in needed(source, conditions):
            for number, tree in enumerate(dict(flow(source))[name]):
                if name in dict(made[0]):
                    self.follow(name, number, led_by(tree, conditions), reads[name][number])
        for name in source[1]:
            if self.done(name) != acts(source, name, conditions):
                self.found.add(("told", conditions, name, 0, ""))
        for read in self.kept:
            self.judge(*read)

    def done(self, name):
        return self.conditions in dict(self.made[4]).get(name, ())

    def follow(self, name, number, wanted, place):
        leaf = led_by(self.trees[name][number], self.conditions)
        if name in self.places:
            own = self.places[name]
            turns = range(leaf[1] if leaf else 40)
            if any((own[0], own[1] * turn + own[2]) != (place[0], place[1] * turn + place[2]) for turn in turns):
                self.found.add(("leaf", self.conditions, name, number, ""))
                return
        if leaf == wanted == ():
            return
        if leaf and leaf[0] in self.places and (wanted == () or leaf[1] <= wanted[1]):
            self.kept.add((name, number, *leaf))
            rest = (wanted[0], wanted[1] - leaf[1]) if wanted else ()
            self.follow(leaf[0], 0, rest, (place[0], place[1], place[2] + place[1] * leaf[1]))
        elif leaf and wanted and leaf[0] not in self.places and leaf[1] == wanted[1] and (
            self.homes[leaf[0]] == self.homes.get(wanted[0]) if self.homes[leaf[0]][0] == "seat" else leaf[0] == wanted[0]
        ):
            self.kept.add((name, number, *wanted))
        else:
            self.found.add(("leaf", self.conditions, name, number, ""))

    def leads(self, low, high):
        pairs = [pair for pair in self.made[6] if pair[0] == low]
        return any(pair[1] == high or self.leads(pair[1], high) for pair in pairs)

    def looked_at(self, writer):
        """All names that over looks at."""
        found = []
        for other in names_in(self.made):
            both = [self.homes[other], self.homes[writer]]
            meet = both[0] == both[1] and both[0][0] == "seat"
            if both[0][0] == both[1][0] == "cells":
                meet = not self.leads(other, writer) and not self.leads(writer, other)
            if other == writer or meet and self.done(other):
                found.append(other)
        return found

    def judge(self, name, number, writer, d):
        def way(one, other):
            return 0 if one == other else least_gap(self.made, one, other)
        if not self.done(writer):
            self.found.add(("done", self.conditions, name, number, writer))
            return
        distance = least_gap(self.made, writer, name)
        if distance is None or distance > d:
            self.found.add(("late", self.conditions, name, number, writer))
        for other in self.looked_at(writer):
            bound = 1
            if other == writer:
                bound = self.homes[writer][1] if self.homes[writer][0] == "cells" else 1
            sums = [way(name, other), way(other, writer)]
            if None in sums or sum(sums) + d > bound:
                self.found.add(("over", self.conditions, name, number, other))


def laid(made, widths):
    """Where each buffer begins: one is laid as soon as all below it are."""
    cells, width = {name: home[1] for name, home in made[5] if home[0] == "cells"}, dict(widths)
    begins = {}
    while len(begins) < len(cells):
        for name in cells:
            below = [low for low, high in made[6] if high == name]
            if name not in begins and all(low in begins for low in below):
                begins[name] = max([begins[low] + cells[low] * width[low] for low in below], default=0)
    return begins


class HandMachine:
    """A MADE played unit by unit: each unit keeps who wrote it last, and what."""

    def __init__(self, source, made, conditions, widths):
        self.reads = {name: reads for name, _, _, reads in source[0]}
        self.trees = {**dict(made[0]), **{name: (tree,) for name, _, tree in made[1]}}
        self.places = {name: place for name, place, _ in made[1]}
        self.masks, self.homes = dict(made[4]), dict(made[5])
        self.conditions, self.width, self.begins = conditions, dict(widths), laid(made, widths)

    def units(self, name, cell):
        first = self.begins[name] + self.width[name] * cell
        return range(first, first + self.width[name])

    def read(self, memory, name, number, turn):
        leaf = led_by(self.trees[name][number], self.conditions)
        if leaf == () or turn < leaf[1]:
            array, a, b = self.places[name] if name in self.places else self.reads[name][number]
            return "first", array, a * turn + b
        kept, back = leaf[0], turn - leaf[1]
        home = self.homes[kept]
        if home[0] == "seat":
            return memory.get(("seat", home[1]), (None, ()))[1]
        cell = back - home[1] * (back * home[2] // 2 ** home[3])
        found = [memory.get(unit, (None, ())) for unit in self.units(kept, cell)]
        return found[0][1] if all(part[0] == (kept, back) for part in found) else ()

    def moment(self, memory, read, moment):
        """Does a moment in memory (by unit or seat: who wrote, what) and read (by step: ROOTS); returns its entry."""
        name, turn, word = moment
        if self.conditions not in self.masks[name]:
            return None
        if word == "begin":
            read[name, turn] = tuple(self.read(memory, name, at, turn) for at in range(len(self.trees[name])))
            return read[name, turn]
        root = read[name, turn][0] if name in self.places else ("step", name, turn)
        home = self.homes[name]
        places = [("seat", home[1])] if home[0] == "seat" else self.units(name, turn % home[1])
        for place in places:
            memory[place] = ((name, turn), root)
        return root


def story_of_reads(read, told):
    """The STORY of these STEPS' reads that the told names lead back to."""
    waiting, reached = [step for step in read if step[0] in told], set()
    while waiting:
        step = waiting.pop()
        if step not in reached:
            reached.add(step)
            waiting += [root[1:] for root in read[step] if root and root[0] == "step"]
    return tuple((name, turn, read[name, turn]) for name, turn in sorted(reached))


def told_names(source, made):
    """The told STATEMENTS that the MADE has."""
    return [name for name, _ in made[0] if name in source[1]]


def told_by_hand(source, made, world):
    """The STORY that is told in this WORLD."""
    _, conditions, widths, run = world
    machine, memory, read = HandMachine(source, made, conditions, widths), {}, {}
    for moment in run:
        machine.moment(memory, read, moment)
    return story_of_reads(read, told_names(source, made))


def all_told(source, made, turns, conditions, widths):
    """The set of all STORIES that are told in the WORLDS with these, whatever their RUN."""
    machine = HandMachine(source, made, conditions, widths)
    lines = [[(name, turn, word) for turn in range(turns) for name in row for word in ("begin", "end")] for row in made[2]]
    waiting, seen, found = [(tuple(0 for _ in lines), (), ())], set(), set()
    while waiting:
        state = waiting.pop()
        if state in seen:
            continue
        seen.add(state)
        places, memory, read = state
        done = {moment for at, line in zip(places, lines) for moment in line[:at]}
        if all(at == len(line) for at, line in zip(places, lines)):
            found.add(story_of_reads(dict(read), told_names(source, made)))
        for hand, (at, line) in enumerate(zip(places, lines)):
            if at == len(line):
                continue
            name, turn, word = line[at]
            waits = [(first, turn - d, "end") for first, later, d in made[3] if later == name and d <= turn]
            if word == "begin" and not all(moment in done for moment in waits):
                continue
            here, roots = dict(memory), dict(read)
            machine.moment(here, roots, line[at])
            behind = (*places[:hand], at + 1, *places[hand + 1:])
            waiting.append((behind, tuple(sorted(here.items(), key=repr)), tuple(sorted(roots.items()))))
    return found


def some_widths(made, most=3):
    """Some WIDTHS, all of few units."""
    names = [name for name, home in made[5] if home[0] == "cells"]
    most = most if len(names) < 3 else 2
    return [tuple(zip(names, numbers)) for numbers in itertools.product(range(1, most + 1), repeat=len(names))]
