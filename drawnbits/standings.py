"""The standings of coin machines: what leads where, how many rows lead there, and the chances from each."""

from drawnbits.common import are_integers, is_within
from drawnbits.equations import solved
from drawnbits.walks import walked


def is_standing(thing, n, many):
    """Whether any value is a standing of a machine with n outcomes and so many standings."""
    if not isinstance(thing, tuple) or thing == ():
        return False
    if thing[0] == "toss":
        return len(thing) == 3 and are_integers(thing[1:], 0, many - 1)
    return thing[0] == "out" and len(thing) == 2 and is_within(thing[1], 0, n - 1)


def is_out(standing):
    """Whether the machine ends at a standing."""
    return standing[0] == "out"


def followers(standing):
    """The positions to which a standing leads, by 0 and by 1; none if the machine ends there."""
    return () if is_out(standing) else standing[1:]


def led_to(standings, start, bits):
    """The standing to which bits lead from another one, and how many of them are taken until the machine ends."""
    at = start
    for taken, bit in enumerate(bits):
        if is_out(standings[at]):
            return (at, taken)
        at = followers(standings[at])[bit]
    return (at, len(bits))


def ways_from(standings, start):
    """The standings that can be reached from one, and how, as walked tells it."""
    return walked(start, lambda at: followers(standings[at]))


def led_on(standings, rows):
    """How many rows with one bit more lead to each standing, told how many rows lead to each now."""
    found = {}
    for at, many in rows.items():
        for after in followers(standings[at]):
            found[after] = found.get(after, 0) + many
    return found


def rows_behind(standings, k):
    """How many rows of k bits lead to each standing, from the beginning."""
    rows = {0: 1}
    for _ in range(k):
        if not rows:
            break
        rows = led_on(standings, rows)
    return rows


def few_rows_behind(standings, k, most):
    """How many rows of k bits lead to each standing, from the beginning, counted no further than to most."""
    seen = {}
    told = []
    rows = {0: 1}
    while len(told) < k:
        # Counted so, the numbers come again and again sooner or later, however great k is.
        key = tuple(sorted(rows.items()))
        if key in seen:
            start = seen[key]
            return told[start + (k - start) % (len(told) - start)]
        seen[key] = len(told)
        told.append(rows)
        rows = {at: min(many, most) for at, many in led_on(standings, rows).items()}
    return rows


def ended(machine, rows):
    """How many of the rows that lead to each standing end at each outcome."""
    n, standings = machine
    found = [0] * n
    for at, many in rows.items():
        if is_out(standings[at]):
            i = standings[at][1]
            found[i] = found[i] + many
    return found


def going_on(standings, rows):
    """How many of the rows that lead to each standing do not end there."""
    return sum([many for at, many in rows.items() if not is_out(standings[at])])


def doubled_with(tops, more):
    """Chances within t bits in 2 ** t-th parts, made to those of one bit more, told how many rows end with it."""
    return [2 * top + many for top, many in zip(tops, more)]


def exits_of(standings):
    """The first bit of a shortest row to an outcome, None at one, for each standing from which there is a row."""
    leading = [[] for _ in standings]
    for at, standing in enumerate(standings):
        for bit, after in enumerate(followers(standing)):
            leading[after].append((at, bit))
    found = {at: None for at, standing in enumerate(standings) if is_out(standing)}
    level = list(found)
    while level:
        later = []
        for after in level:
            for at, bit in leading[after]:
                if at not in found:
                    found[at] = bit
                    later.append(at)
        level = later
    return found


def row_out(standings, exits, start):
    """A shortest row of bits from a standing to an outcome."""
    bits = []
    at = start
    while exits[at] is not None:
        bits.append(exits[at])
        at = followers(standings[at])[exits[at]]
    return tuple(bits)


def stays_within(standing, lot):
    """Whether a standing is a toss both of whose followers are in a lot."""
    return not is_out(standing) and all([after in lot for after in followers(standing)])


def sure_chances(n, i):
    """The chances of n outcomes of which i is certain; with i None all of them have the chance 0."""
    return tuple([(1, 1) if k == i else (0, 1) for k in range(n)])


def tosses_that_end(machine):
    """The tosses that can be reached and from which an outcome can be reached."""
    exits = exits_of(machine[1])
    return [at for at in ways_from(machine[1], 0) if exits.get(at) is not None]


def half_each(standing, at, unknown, known):
    """The equation of a toss: twice its value is what is known and the values of its followers that are unknown."""
    shares = {}
    for after in followers(standing):
        if after in unknown and after != at:
            shares[after] = shares.get(after, 0) + 1
    return (2 - followers(standing).count(at), shares, known)


def chances_from(machine):
    """The chances of all outcomes from each standing that can be reached."""
    n, standings = machine
    found = {}
    for at in ways_from(standings, 0):
        # Tosses from which no outcome can be reached keep the chances 0.
        found[at] = sure_chances(n, standings[at][1] if is_out(standings[at]) else None)
    unknown = {at: True for at in tosses_that_end(machine)}
    equations = {}
    for at in unknown:
        # The chances at outcomes are 0 and 1, those of tosses are still 0: so the tops alone tell them.
        known = [sum([found[after][i][0] for after in followers(standings[at])]) for i in range(n)]
        equations[at] = half_each(standings[at], at, unknown, tuple(known))
    found.update(solved(equations))
    return found
