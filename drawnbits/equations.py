"""Equations, each of which tells an unknown by others and by numbers that are known.

The equation of an unknown is a triple (scale, shares, known): scale times its value is the sum of known and of the
values of other unknowns, each times its share. Values and known are tuples of one length, as many cases are solved at
once. Scales and shares are integers above 0, and there must be just one solution.
"""

from math import gcd

from drawnbits.common import added, divided, times


def solved(equations):
    """The values of all unknowns: a dict from each one to a tuple of fractions."""
    left = {key: equations[key] for key in equations}
    users = users_of(equations)
    taken = []
    while left:
        # Putting in an equation joins its unknowns with all of its users: the fewer, the shorter the others stay.
        key = min(list(left), key=lambda name: len(left[name][1]) * len(users[name]))
        equation = left.pop(key)
        taken.append((key, equation))
        for other in equation[1]:
            del users[other][key]
        concerned = list(users.pop(key))
        for user in concerned:
            joined = put_in(user, left[user], key, equation)
            left[user] = joined
            for other in joined[1]:
                users[other][user] = True
    values = {}
    for key, equation in reversed(taken):
        values[key] = worth(equation, values)
    return values


def users_of(equations):
    """For each unknown the others in whose equations it stands, as the keys of a dict."""
    users = {key: {} for key in equations}
    for key, equation in equations.items():
        for other in equation[1]:
            users[other][key] = True
    return users


def put_in(user, equation, key, told):
    """The equation of a user of key, with what the equation of key tells in its place."""
    scale, shares, known = equation
    inner, parts, more = told
    share = shares[key]
    joined = {other: inner * many for other, many in shares.items() if other != key}
    for other, many in parts.items():
        joined[other] = joined.get(other, 0) + share * many
    itself = joined.pop(user, 0)
    sums = tuple([inner * one + share * two for one, two in zip(known, more)])
    return shortened(inner * scale - itself, joined, sums)


def shortened(scale, shares, known):
    """An equation divided by what all of its numbers share."""
    shared = scale
    for number in list(shares.values()) + list(known):
        shared = gcd(shared, number)
    if shared == 1:
        return (scale, shares, known)
    parts = {key: share // shared for key, share in shares.items()}
    return (scale // shared, parts, tuple([number // shared for number in known]))


def worth(equation, values):
    """The value that an equation tells, if those of the others in it are told."""
    scale, shares, known = equation
    sums = [(number, 1) for number in known]
    for key, share in shares.items():
        sums = [added(one, times((share, 1), two)) for one, two in zip(sums, values[key])]
    return tuple([divided(one, (scale, 1)) for one in sums])
