"""Programs of draws: what they are, what they mean, filled and worked out."""

from drawnbits.common import are_integers, are_pairs, is_lot, is_within
from drawnbits.errors import BadFillings, BadProgram
from drawnbits.tables import MOST_OUTCOMES, chance_of, given_lot, is_table, mixed, named_chance

MOST_NAMES = 4
MOST_PARTS = 40
MOST_DEEP = 8


def is_program(thing):
    """Whether any value is a program."""
    if many_parts(thing, MOST_DEEP) == 0:
        return False
    # These are ascending and none comes twice, so a name comes again only with another number of outcomes.
    names = [name for name, _ in places_within(thing)]
    return all([one < other for one, other in zip(names, names[1:])])


def many_parts(thing, deep):
    """The number of parts of any value that is a program at most so deep; 0 if it is none, or has too many.

    Places of one name may still have unlike numbers of outcomes.
    """
    if deep == 0 or not isinstance(thing, tuple) or thing == ():
        return 0
    found = 1
    for part in programs_within(thing):
        many = many_parts(part, deep - 1)
        found = found + many
        if many == 0 or found > MOST_PARTS:
            return 0
    return found if is_well_made(thing) else 0


def programs_within(thing):
    """What stands in a tuple, not (), where the programs in a program stand."""
    if thing[0] == "bind" and len(thing) == 3 and isinstance(thing[2], tuple):
        return (thing[1],) + thing[2]
    if thing[0] == "again" and len(thing) == 3 or thing[0] == "map" and len(thing) == 4:
        return (thing[1],)
    return ()


def is_well_made(thing):
    """Whether a tuple, not (), is a program if what stands in it where programs stand are such."""
    word, many = thing[0], len(thing)
    if word == "value":
        return many == 3 and is_size(thing[1]) and is_within(thing[2], 0, thing[1] - 1)
    if word == "draw":
        return many == 2 and is_table(thing[1])
    if word == "place":
        return many == 3 and is_within(thing[1], 0, MOST_NAMES - 1) and is_size(thing[2])
    if word == "bind":
        return many == 3 and isinstance(thing[2], tuple) and are_cases(thing[2], size_of(thing[1]))
    if word == "again":
        return many == 3 and can_fall_into(thing[1], thing[2])
    if word == "map":
        return many == 4 and is_size(thing[3]) and are_names(thing[2], size_of(thing[1]), thing[3])
    return False


def is_size(thing):
    """Whether any value is a number of outcomes."""
    return is_within(thing, 1, MOST_OUTCOMES)


def are_cases(programs, many):
    """Whether programs are so many, all with as many outcomes."""
    return len(programs) == many and all([size_of(part) == size_of(programs[0]) for part in programs])


def are_names(thing, many, n):
    """Whether any value is a tuple of so many integers from 0 to n - 1."""
    return are_integers(thing, 0, n - 1) and len(thing) == many


def can_fall_into(program, lot):
    """Whether a program is closed and any value a lot of its outcomes whose chance is not 0."""
    if places_within(program) != [] or not is_lot(lot, size_of(program)):
        return False
    return chance_of(meaning_of(program), lot) != (0, 1)


def size_of(program):
    """The number of outcomes of a program."""
    word = program[0]
    if word == "draw":
        return len(program[1])
    if word == "bind":
        return size_of(program[2][0])
    if word == "again":
        return size_of(program[1])
    if word == "value":
        return program[1]
    return program[2] if word == "place" else program[3]


def places_within(program):
    """The pairs (name, n) of the places in a program, ascending."""
    if program[0] == "place":
        return [(program[1], program[2])]
    found = {}
    for part in programs_within(program):
        for place in places_within(part):
            found[place] = True
    return sorted(found)


def check_program(program):
    """Raises the error of a value that is no program."""
    if not is_program(program):
        raise BadProgram(program)


def outcomes_of(program):
    """The number of outcomes of a program."""
    check_program(program)
    return size_of(program)


def places_of(program):
    """The ascending tuple of the pairs (name, n) of the places of a program."""
    check_program(program)
    return tuple(places_within(program))


def is_closed(program):
    """Whether a program has no open place."""
    check_program(program)
    return places_within(program) == []


def check_closed(program):
    """Raises the error of a value that is no closed program."""
    if not is_closed(program):
        raise BadProgram(program)


def meaning(program):
    """The table of the chances of the outcomes of a closed program."""
    check_closed(program)
    return meaning_of(program)


def meaning_of(program):
    """The meaning of what is a closed program."""
    word = program[0]
    if word == "value":
        return tuple([(1, 1) if v == program[2] else (0, 1) for v in range(program[1])])
    if word == "draw":
        return program[1]
    inner = meaning_of(program[1])
    if word == "bind":
        return mixed(inner, tuple([meaning_of(part) for part in program[2]]))
    if word == "again":
        return given_lot(inner, program[2])
    return tuple([named_chance(inner, program[2], name) for name in range(program[3])])


def filled(program, fillings):
    """A program with draws by the tables of fillings in the place of its open places."""
    check_program(program)
    if not are_fillings(fillings, places_within(program)):
        raise BadFillings(fillings)
    return filled_by(program, dict(fillings))


def are_fillings(thing, places):
    """Whether any value is fillings of just these places, told by their pairs (name, n)."""
    if not are_pairs(thing, [name for name, _ in places]):
        return False
    return all([is_table(table) and len(table) == place[1] for (_, table), place in zip(thing, places)])


def filled_by(program, tables):
    """A program with draws in the place of its open places, told the table for each name."""
    word = program[0]
    if word == "place":
        return ("draw", tables[program[1]])
    if word == "bind":
        cases = tuple([filled_by(part, tables) for part in program[2]])
        return (word, filled_by(program[1], tables), cases)
    if word == "map":
        return (word, filled_by(program[1], tables)) + program[2:]
    # No other program has open places.
    return program


def worked_out(program):
    """A program that means the same, as far as it can be told without the open places."""
    check_program(program)
    return worked(program)


def worked(program):
    """What is a program, worked out."""
    if places_within(program) == []:
        return ("draw", meaning_of(program))
    word = program[0]
    if word == "place":
        return program
    inner = worked(program[1])
    if word == "bind":
        return worked_bind(inner, tuple([worked(part) for part in program[2]]))
    _, _, names, n = program
    return inner if names == tuple(range(n)) else (word, inner, names, n)


def worked_bind(inner, cases):
    """A "bind" that is not closed, of what is worked out."""
    if all([part == cases[0] for part in cases]):
        return cases[0]
    if inner[0] == "draw" and (1, 1) in inner[1]:
        return cases[inner[1].index((1, 1))]
    return ("bind", inner, cases)
