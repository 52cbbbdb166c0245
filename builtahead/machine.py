"""The machine: a MADE played moment by moment in a WORLD."""

from builtahead.buffers import bases, is_widths
from builtahead.errors import NoName, NoNumber
from builtahead.flows import all_conditions, leaf
from builtahead.forms import MOST_TURNS
from builtahead.numbers import worked_out
from builtahead.programs import Program
from builtahead.runs import BEGIN, is_run
from builtahead.shapes import names_of
from builtahead.sources import cell_of, source_told, story_of
from builtahead.values import is_natural, set_of, tupled


def is_world(source, made, thing):
    """Whether the thing is a WORLD of the SOURCE and the MADE."""
    if not (type(thing) is tuple and len(thing) == 4):
        return False
    turns, conditions, widths, run = thing
    if not (is_natural(turns) and turns <= MOST_TURNS and type(run) is tuple):
        return False
    if conditions not in all_conditions(source) or not is_widths(made, widths):
        return False
    # Compared first, as a RUN of so many turns may be far too long to be written out.
    return len(run) == 2 * turns * len(names_of(made)) and is_run(made, turns, run)


class Machine:
    """What stands in the seats and cells while a MADE is played in a WORLD."""

    def __init__(self, source, made, world):
        _, self.conditions, self.widths, self.run = tupled(world)
        self.program = Program(made)
        self.reads = {name: reads for name, _, _, reads in tupled(source)[0]}
        self.bases = {name: base for name, base in bases(made, self.widths)}
        self.read = {}
        self.written = {}
        self.seats = {}
        # By (name, turn): (first unit, first one behind, ROOT) of the cells that nothing else was written over.
        self.whole = {}

    def play(self, many):
        """Plays so many moments."""
        for name, turn, word in self.run[:many]:
            if not self.program.is_done(name, self.conditions):
                continue
            if word == BEGIN:
                trees = self.program.trees[name]
                self.read[(name, turn)] = tuple([self.root_read(name, at, turn) for at in range(len(trees))])
            else:
                self.write(name, turn)

    def root_read(self, name, number, turn):
        """The ROOT that this read finds now."""
        found = leaf(self.program.trees[name][number], self.conditions)
        if found == () or turn < found[1]:
            places = self.program.places
            place = places[name] if name in places else self.reads[name][number]
            return ("first", *cell_of(place, turn))
        kept, d = found
        home = self.program.homes[kept]
        if home[0] == "seat":
            return self.seats.get(home[1], ())
        _, cells, multiplier, shift = home
        span = self.span(kept, worked_out(turn - d, cells, multiplier, shift))
        first, behind, root = self.whole.get((kept, turn - d), (0, 0, ()))
        return root if (first, behind) == span else ()

    def span(self, name, cell):
        """The first unit of this cell of a buffer, and the first one behind it."""
        width = [many for other, many in self.widths if other == name][0]
        first = self.bases[name] + width * cell
        return first, first + width

    def write(self, name, turn):
        """Writes what a name writes at its end."""
        is_move = name in self.program.places
        root = self.read[(name, turn)][0] if is_move else ("step", name, turn)
        self.written[(name, turn)] = root
        home = self.program.homes[name]
        if home[0] == "seat":
            self.seats[home[1]] = root
            return
        first, behind = self.span(name, turn % home[1])
        for step in list(self.whole):
            low, high, _ = self.whole[step]
            if low < behind and first < high:
                del self.whole[step]
        self.whole[(name, turn)] = (first, behind, root)


def machine_behind(source, made, world, number):
    """The Machine behind so many moments; raises NoNumber if the RUN has not so many."""
    machine = Machine(source, made, world)
    if not 0 <= number <= len(machine.run):
        raise NoNumber(number)
    machine.play(number)
    return machine


def machine_at_end(source, made, world):
    """The Machine behind all moments."""
    return machine_behind(source, made, world, len(world[3]))


def check_step(made, world, name, turn):
    """Raises NoName if this is no name of the MADE, then NoNumber if the WORLD has no such turn."""
    if name not in names_of(made):
        raise NoName(name)
    if not 0 <= turn < world[0]:
        raise NoNumber(turn)


def trace(source, made, world):
    """For each moment the ROOTS read, or the ROOT written; None if the name is not done."""
    machine = machine_at_end(source, made, world)
    return tuple([
        machine.read.get((name, turn)) if word == BEGIN else machine.written.get((name, turn))
        for name, turn, word in machine.run
    ])


def roots_read(source, made, world, name, turn):
    """The tuple of the ROOTS that this STEP or MOVE reads; None if it is not done."""
    check_step(made, world, name, turn)
    return machine_at_end(source, made, world).read.get((name, turn))


def root_written(source, made, world, name, turn):
    """The ROOT that this STEP or MOVE writes; None if it is not done."""
    check_step(made, world, name, turn)
    return machine_at_end(source, made, world).written.get((name, turn))


def told_story(source, made, world):
    """The STORY that is told."""
    read = machine_at_end(source, made, world).read
    told = [name for name, _ in made[0] if name in source[1]]
    return story_of(read, [step for step in read if step[0] in told])


def told_by_source(source, world):
    """The STORY that the SOURCE tells by the CONDITIONS and turns of the WORLD."""
    return source_told(source, world[1], world[0])


def tells_right(source, made, world):
    """Whether what the SOURCE tells is told."""
    return told_story(source, made, world) == told_by_source(source, world)


def first_wrong(source, made, world):
    """The least pair (statement, turn) whose triple stands in one of both STORIES alone; None if there is none."""
    wrong = sorted(set(told_story(source, made, world)) ^ set(told_by_source(source, world)))
    return wrong[0][:2] if wrong else None


def seats_behind(source, made, world, number):
    """The ascending tuple of the pairs (seat, ROOT) behind so many moments."""
    seats = machine_behind(source, made, world, number).seats
    return tuple([(seat, seats[seat]) for seat in sorted(seats)])


def units_behind(source, made, world, number):
    """The triples (first unit, width, ROOT) of the cells that stand whole behind so many moments."""
    whole = machine_behind(source, made, world, number).whole
    return set_of([(first, behind - first, root) for first, behind, root in whole.values() if root])
