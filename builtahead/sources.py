"""SOURCES: the statements of a loop, what they read and tell, and their texts."""

from builtahead.errors import BadText, NoName
from builtahead.values import is_name, is_natural, is_set_of_names, set_of, tupled
from builtahead.words import place_in, place_word

MOST_STATEMENTS = 8
MOST_READS = 3
MOST_CONDITIONS = 4


def is_place(thing):
    """Whether the thing is a PLACE (array, a, b)."""
    if not (type(thing) is tuple and len(thing) == 3):
        return False
    return is_name(thing[0]) and is_natural(thing[1]) and is_natural(thing[2])


def is_guard(thing):
    """Whether the thing is () or a pair (condition, answer)."""
    if type(thing) is not tuple:
        return False
    return thing == () or (len(thing) == 2 and is_name(thing[0]) and type(thing[1]) is bool)


def is_statement(thing):
    """Whether the thing is a STATEMENT."""
    if not (type(thing) is tuple and len(thing) == 4):
        return False
    name, guard, target, reads = thing
    if not (is_name(name) and is_guard(guard) and is_place(target)):
        return False
    if not (type(reads) is tuple and len(reads) <= MOST_READS):
        return False
    return all([is_place(place) for place in reads])


def is_source(thing):
    """Whether the thing is a SOURCE."""
    if not (type(thing) is tuple and len(thing) == 2):
        return False
    statements, told = thing
    if not (type(statements) is tuple and 1 <= len(statements) <= MOST_STATEMENTS):
        return False
    if not all([is_statement(statement) for statement in statements]):
        return False
    names = [statement[0] for statement in statements]
    if len(set(names)) < len(names) or len(conditions_asked(statements)) > MOST_CONDITIONS:
        return False
    return is_set_of_names(told) and all([name in names for name in told])


def conditions_asked(statements):
    """The set of the conditions that the guards of these STATEMENTS ask."""
    return set_of([guard[0] for _, guard, _, _ in statements if guard])


def statement_names(source):
    """The tuple of the NAMEs, in the order of a turn."""
    return tuple([statement[0] for statement in source[0]])


def conditions_of(source):
    """The set of the conditions that guards ask."""
    return conditions_asked(source[0])


def statement_of(source, name):
    """The STATEMENT with this name."""
    for statement in source[0]:
        if statement[0] == name:
            return tupled(statement)
    raise NoName(name)


def guard_of(source, name):
    """The guard of the STATEMENT with this name."""
    return statement_of(source, name)[1]


def target_of(source, name):
    """The PLACE that the STATEMENT with this name writes."""
    return statement_of(source, name)[2]


def reads_of(source, name):
    """The tuple of the PLACES that the STATEMENT with this name reads."""
    return statement_of(source, name)[3]


def guard_holds(guard, conditions):
    """Whether a STATEMENT with this guard acts by the conditions."""
    if len(guard) == 0:
        return True
    condition, answer = guard
    return (condition in conditions) == answer


def acts(source, name, conditions):
    """Whether the STATEMENT with this name acts by the conditions."""
    return guard_holds(guard_of(source, name), conditions)


def cell_of(place, turn):
    """The cell that a PLACE is in a turn."""
    array, a, b = place
    return array, a * turn + b


def root_in(cells, cell):
    """The ROOT that stands in the cell: its first letter as long as nobody wrote it."""
    array, number = cell
    return cells.get(cell, ("first", array, number))


def gone_through(source, conditions, turns):
    """Two dicts: the ROOTS that each STEP read, and the ROOT in each cell that was written."""
    read, cells = {}, {}
    acting = [statement for statement in tupled(source)[0] if guard_holds(statement[1], conditions)]
    for turn in range(turns):
        for name, _, target, reads in acting:
            read[(name, turn)] = tuple([root_in(cells, cell_of(place, turn)) for place in reads])
            cells[cell_of(target, turn)] = ("step", name, turn)
    return read, cells


def story_of(read, steps):
    """The STORY of these STEPS and of all that they lead back to."""
    waiting = list(steps)
    reached = set(steps)
    while waiting:
        reader = waiting.pop()
        for root in read[reader]:
            step = root[1:]
            if root[:1] == ("step",) and step not in reached:
                reached.add(step)
                waiting.append(step)
    return tuple([(name, turn, read[(name, turn)]) for name, turn in sorted(reached)])


def source_told(source, conditions, turns):
    """The STORY that is told."""
    told = source[1]
    read, _ = gone_through(source, conditions, turns)
    return story_of(read, [step for step in read if step[0] in told])


def roots_of_step(source, conditions, name, turn):
    """The tuple of the ROOTS that this STEP reads; None if the STATEMENT does not act."""
    if not acts(source, name, conditions):
        return None
    read, _ = gone_through(source, conditions, turn + 1)
    return read[(name, turn)]


def cells_after(source, conditions, turns):
    """The pairs (cell, ROOT) of all cells written, as they are behind all turns."""
    _, cells = gone_through(source, conditions, turns)
    return tuple([(cell, cells[cell]) for cell in sorted(cells)])


def guard_word(guard):
    """The word of a guard."""
    if len(guard) == 0:
        return "-"
    condition, answer = guard
    return ("+" if answer else "-") + condition


def guard_in(word):
    """The guard that a word tells; None if it is not so written."""
    if word == "-":
        return ()
    if word[:1] not in ("+", "-") or not is_name(word[1:]):
        return None
    return word[1:], word[0] == "+"


def source_text(source):
    """The text of a SOURCE."""
    statements, told = source
    return "; ".join([statement_text(statement, told) for statement in statements])


def statement_text(statement, told):
    """The piece of a text for one STATEMENT."""
    name, guard, target, reads = statement
    mark = "*" if name in told else ""
    places = [place_word(place) for place in (target, *reads)]
    return " ".join([name + mark, guard_word(guard), *places])


def statement_in(piece):
    """The STATEMENT that a piece tells, its name without the mark; None if it is not so written."""
    words = piece.split(" ")
    if not 3 <= len(words) <= 3 + MOST_READS:
        return None
    guard = guard_in(words[1])
    places = [place_in(word) for word in words[2:]]
    statement = (words[0].removesuffix("*"), guard, places[0], tuple(places[1:]))
    return statement if is_statement(statement) else None


def is_room_for(statements, statement):
    """Whether this STATEMENT can come behind these in a SOURCE."""
    if statement[0] in [other[0] for other in statements] or len(statements) == MOST_STATEMENTS:
        return False
    return len(conditions_asked([*statements, statement])) <= MOST_CONDITIONS


def source_from(text):
    """The SOURCE with this text; raises BadText with the number of the first wrong piece."""
    statements, told = [], []
    for number, piece in enumerate(text.split("; ")):
        statement = statement_in(piece)
        if statement is None or not is_room_for(statements, statement):
            raise BadText(number)
        statements.append(statement)
        if piece.split(" ")[0].endswith("*"):
            told.append(statement[0])
    return tuple(statements), set_of(told)
