"""Machines alike: in their runs, in the numbers of their rows of each length, and in their chances."""

from drawnbits.common import is_number, is_within
from drawnbits.errors import OtherSize
from drawnbits.machines import are_bits, chances, check_machine, is_machine, run
from drawnbits.standings import ended, followers, is_out, led_on, rows_behind, ways_from
from drawnbits.walks import steps_to, walked


def folded(machine):
    """The machine that runs the same, each of whose standings is reached and runs otherwise than the others."""
    check_machine(machine)
    n, standings = machine
    marks = marks_of(standings)
    sample = {marks[at]: standings[at] for at in marks}
    came = walked(marks[0], lambda mark: marks_behind(sample[mark], marks))
    places = {mark: place for place, mark in enumerate(came)}
    return (n, tuple([moved(sample[mark], marks, places) for mark in came]))


def moved(standing, marks, places):
    """A standing that leads to the places of the marks of its followers."""
    if is_out(standing):
        return standing
    return ("toss",) + tuple([places[mark] for mark in marks_behind(standing, marks)])


def marks_behind(standing, marks):
    """The marks of the followers of a standing."""
    return tuple([marks[after] for after in followers(standing)])


def marks_of(standings):
    """A mark for each standing that can be reached, the same for those from which all rows run the same."""
    there = list(ways_from(standings, 0))
    marks, many = numbered({at: standings[at] if is_out(standings[at]) else () for at in there})
    before = 0
    while many > before:
        before = many
        told = {}
        for at in there:
            told[at] = (marks[at],) + marks_behind(standings[at], marks)
        marks, many = numbered(told)
    return marks


def numbered(told):
    """A number for each key, the same where what is told of it is the same, and how many there are."""
    numbers = {}
    for thing in told.values():
        numbers.setdefault(thing, len(numbers))
    return ({key: numbers[told[key]] for key in told}, len(numbers))


def check_both(one, other):
    """Raises the errors of two values that are no machines of one number of outcomes."""
    check_machine(one)
    check_machine(other)
    if one[0] != other[0]:
        raise OtherSize(other)


def judge_runs(one, other):
    """A certificate that two machines run the same, or do not."""
    check_both(one, other)
    short, second = folded(one), folded(other)
    if short == second:
        return ("same", short)
    return ("bits", row_unlike(short[1], second[1]))


def row_unlike(standings, others):
    """A row of bits whose runs are unlike, of two machines that do not run the same."""
    came = walked((0, 0), lambda pair: pair_followers(standings[pair[0]], others[pair[1]]))
    # From a pair in which one ends, or both, no step leads on: it is right only if both end alike.
    ends = [pair for pair in came if is_out(standings[pair[0]]) or is_out(others[pair[1]])]
    unlike = [pair for pair in ends if standings[pair[0]] != others[pair[1]]]
    return steps_to(came, unlike[0])


def pair_followers(one, other):
    """The pairs of positions to which two standings lead together, none if one ends."""
    return list(zip(followers(one), followers(other)))


def runs_hold(one, other, thing):
    """Whether any value is a right certificate of judge_runs."""
    check_both(one, other)
    if not isinstance(thing, tuple) or len(thing) != 2:
        return False
    if thing[0] == "same":
        return is_machine(thing[1]) and thing[1] == folded(one) and thing[1] == folded(other)
    return thing[0] == "bits" and are_bits(thing[1]) and run(one, thing[1]) != run(other, thing[1])


def judge_lengths(one, other):
    """A certificate that each outcome of two machines has as many rows of each length, or has not."""
    check_both(one, other)
    rows, others = {0: 1}, {0: 1}
    for k in range(len(one[1]) + len(other[1])):
        numbers, more = ended(one, rows), ended(other, others)
        unlike = [i for i in range(one[0]) if numbers[i] != more[i]]
        if unlike:
            return ("length", unlike[0], k)
        rows, others = led_on(one[1], rows), led_on(other[1], others)
    return ("alike",)


def lengths_hold(one, other, thing):
    """Whether any value is a right certificate of judge_lengths."""
    check_both(one, other)
    if thing == ("alike",):
        return judge_lengths(one, other) == ("alike",)
    if not isinstance(thing, tuple) or len(thing) != 3 or thing[0] != "length":
        return False
    _, i, k = thing
    # Where they are alike no length has to be looked up, however great it is.
    if not is_within(i, 0, one[0] - 1) or not is_number(k) or judge_lengths(one, other) == ("alike",):
        return False
    return many_ended(one, i, k) != many_ended(other, i, k)


def many_ended(machine, i, k):
    """The number of rows of k bits that end at an outcome."""
    return ended(machine, rows_behind(machine[1], k))[i]


def are_alike(one, other):
    """Whether each outcome has the same chance in two machines."""
    check_both(one, other)
    return chances(one) == chances(other)
