"""Closed programs compiled to machines: what they cost, plainly made and at best, and how such machines are made."""

from drawnbits.alike import folded
from drawnbits.best import best_machine, first_above, least_mean, rests_at
from drawnbits.common import added, divided, is_number, lowest, times, total
from drawnbits.machines import does_end, drawn_table, is_machine, many_rows, mean, tail
from drawnbits.programs import check_closed, meaning_of, size_of
from drawnbits.standings import few_rows_behind, followers, going_on, is_out
from drawnbits.tables import chance_of


def plain_cost(program):
    """The mean number of bits that a closed program takes, made part by part."""
    check_closed(program)
    return cost_of(program)


def cost_of(program):
    """The plain cost of what is a closed program."""
    word = program[0]
    if word == "value":
        return (0, 1)
    if word == "draw":
        return least_mean(program[1])
    inner = cost_of(program[1])
    if word == "bind":
        chances = meaning_of(program[1])
        return added(inner, total([times(chance, cost_of(part)) for chance, part in zip(chances, program[2])]))
    if word == "again":
        return divided(inner, chance_of(meaning_of(program[1]), program[2]))
    return inner


def best_cost(program):
    """The least mean number of bits of the meaning of a closed program."""
    check_closed(program)
    return least_mean(meaning_of(program))


def plain_machine(program):
    """A machine that draws the meaning of a closed program and takes its plain cost of bits in the mean."""
    check_closed(program)
    return made_of(program)


def made_of(program):
    """The plain machine of what is a closed program, folded."""
    n = size_of(program)
    made = [("out", i) for i in range(n)]
    start = put_together(program, list(range(n)), made)
    # A copy of the beginning stands first, so all others stand one further behind.
    order = [start] + list(range(len(made)))
    return folded((n, tuple([moved_by(made[straight(made, at)], 1) for at in order])))


def put_together(program, ends, made):
    """Puts the standings of a program behind those that are made, ends being where it leads with each outcome.

    Gives the position at which it begins. A standing ("go", a) takes no bit: it is there for the beginning of an
    "again", which is known only when the standings that lead back to it are made.
    """
    word = program[0]
    if word == "value":
        return ends[program[2]]
    if word == "draw":
        return put_draw(best_machine(program[1])[1], ends, made)
    if word == "bind":
        return put_together(program[1], [put_together(part, ends, made) for part in program[2]], made)
    if word == "map":
        return put_together(program[1], [ends[name] for name in program[2]], made)
    here = len(made)
    made.append(("go", here))
    behind = [end if v in program[2] else here for v, end in enumerate(ends)]
    made[here] = ("go", put_together(program[1], behind, made))
    return here


def put_draw(standings, ends, made):
    """Puts the tosses of a machine behind those that are made, its outcomes being where ends tells."""
    places = []
    first = len(made)
    for standing in standings:
        places.append(ends[standing[1]] if is_out(standing) else first)
        if not is_out(standing):
            first = first + 1
    for standing in standings:
        if not is_out(standing):
            made.append(("toss",) + tuple([places[after] for after in followers(standing)]))
    return places[0]


def straight(made, at):
    """The position to which one leads before a bit is taken.

    What takes no bit has just one outcome; within an "again" this one is in the lot: so nothing leads back for ever.
    """
    while made[at][0] == "go":
        at = made[at][1]
    return at


def moved_by(standing, many):
    """A standing whose followers stand so many positions further behind."""
    return standing if is_out(standing) else ("toss",) + tuple([after + many for after in followers(standing)])


def is_plain_machine(program, thing):
    """Whether any value is a plain machine of a closed program."""
    check_closed(program)
    if not is_machine(thing) or not does_end(thing):
        return False
    return drawn_table(thing) == meaning_of(program) and mean(thing) == cost_of(program)


def length_chance(program, outcome, t):
    """The chance that a closed program, made part by part, comes to an outcome behind just t bits."""
    return lowest(many_rows(plain_machine(program), outcome, t), 1 << t)


def made_tail(program, t):
    """The chance that a closed program, made part by part, needs more than t bits."""
    return tail(plain_machine(program), t)


def judge_cost(program):
    """A certificate that the plain cost of a closed program is its best cost, or is not."""
    if plain_cost(program) == best_cost(program):
        return ("best",)
    return ("more", first_above(made_of(program)[1], meaning_of(program)))


def cost_holds(program, thing):
    """Whether any value is a right certificate of judge_cost."""
    is_best = plain_cost(program) == best_cost(program)
    if thing == ("best",):
        return is_best
    if not isinstance(thing, tuple) or len(thing) != 2 or thing[0] != "more" or not is_number(thing[1]):
        return False
    return not is_best and is_more(program, thing[1])


def is_more(program, t):
    """Whether a closed program, made part by part, needs more than t bits with more than the least chance."""
    standings = made_of(program)[1]
    # The rests add up to less than the number of outcomes, so no standing has to be counted further.
    rows = few_rows_behind(standings, t, size_of(program))
    return going_on(standings, rows) > rests_at(meaning_of(program), t)
