"""Outcomes drawn out of what is left over of the bits behind a draw, and how many bits this takes."""

from math import lcm

from drawnbits.common import added, divided, is_within, times, total
from drawnbits.equations import solved
from drawnbits.errors import BadNumber, BadRow
from drawnbits.machines import check_bits
from drawnbits.walks import walked

MOST_WIDTH = 12
MOST_WANT = 64


def is_want(thing, w):
    """Whether any value is a want that can be drawn with a width."""
    return is_within(thing, 2, min(MOST_WANT, 1 << w))


def check_width(w):
    """Raises the error of a value that is no width."""
    if not is_within(w, 1, MOST_WIDTH):
        raise BadNumber(w)


def check_want(w, n):
    """Raises the errors of values that are no width, and no want that can be drawn with it."""
    check_width(w)
    if not is_want(n, w):
        raise BadNumber(n)


def check_wants(w, wants):
    """Raises the errors of values that are no width, and no row of wants that can be drawn with it."""
    check_width(w)
    if not isinstance(wants, tuple) or not all([is_want(n, w) for n in wants]):
        raise BadRow(wants)


def is_rest(thing, w):
    """Whether any value is a rest that can stand ahead of a draw with a width."""
    if not isinstance(thing, tuple) or len(thing) != 2 or not is_within(thing[0], 1, (2 << w) - 1):
        return False
    return is_within(thing[1], 0, thing[0] - 1)


def wanted(w, rest, n, bits):
    """The outcome of a want, the rest that it leaves, and how many bits it takes; None if the bits are too few."""
    check_width(w)
    if not is_rest(rest, w):
        raise BadRow(rest)
    check_want(w, n)
    check_bits(bits)
    return drawn_behind(w, rest, n, bits, 0)


def drawn_behind(w, rest, n, bits, taken):
    """What wanted tells, of rows of which some bits are taken already."""
    m, r = rest
    while True:
        while m < 1 << w:
            if taken == len(bits):
                return None
            m, r = 2 * m, 2 * r + bits[taken]
            taken = taken + 1
        q = m // n
        if r < q * n:
            return (r % n, (q, r // n), taken)
        m, r = m - q * n, r - q * n


def row_wanted(w, wants, bits):
    """The outcomes of a row of wants, the rest that is left, and how many bits are taken; None if they are too few."""
    check_wants(w, wants)
    check_bits(bits)
    found = []
    rest, taken = (1, 0), 0
    for n in wants:
        told = drawn_behind(w, rest, n, bits, taken)
        if told is None:
            return None
        outcome, rest, taken = told
        found.append(outcome)
    return (tuple(found), rest, taken)


def bits_to_fill(w, size):
    """How many bits are taken until a rest of this size is wide enough, which none is that is left over."""
    return w + 1 - size.bit_length()


def filled_up(w, size):
    """The size that a rest has when it is wide enough."""
    return size << bits_to_fill(w, size)


def visits(w, n, chances):
    """How often rests of each size are drawn from, for one want, told the chances of their sizes ahead of it.

    Each number is divided by the size that the rest then has: in this way all equations have integers.
    """
    came = walked(None, lambda size: list(chances) if size is None else sizes_gone_on(w, n, size))
    there = [size for size in came if size is not None]
    ahead = {size: {} for size in there}
    for size in there:
        for after in sizes_gone_on(w, n, size):
            ahead[after][size] = after
    bottom = 1
    for chance in chances.values():
        bottom = lcm(bottom, chance[1])
    equations = {}
    for size in there:
        top, part = chances.get(size, (0, 1))
        scale = filled_up(w, size) - ahead[size].pop(size, 0)
        equations[size] = (scale, ahead[size], (top * (bottom // part),))
    return {size: divided(told[0], (bottom, 1)) for size, told in solved(equations).items()}


def sizes_gone_on(w, n, size):
    """The size of the rest that is gone on from if a want is not drawn from one of a size; none if it surely is."""
    left = filled_up(w, size) % n
    return (left,) if left > 0 else ()


def behind_want(w, n, chances):
    """The chances of the sizes behind a want, and the mean number of bits that it takes, told those ahead of it."""
    found = {}
    taken = (0, 1)
    for size, visit in visits(w, n, chances).items():
        full = filled_up(w, size)
        q = full // n
        found[q] = added(found.get(q, (0, 1)), times(visit, (q * n, 1)))
        taken = added(taken, times(visit, (full * bits_to_fill(w, size), 1)))
    return (found, taken)


def behind_wants(w, wants):
    """The chances of the sizes behind a row of wants, and the mean numbers of bits that each of these takes."""
    chances = {1: (1, 1)}
    taken = []
    for n in wants:
        chances, more = behind_want(w, n, chances)
        taken.append(more)
    return (chances, taken)


def sizes(w, wants):
    """The sizes that the rest behind a row of wants can have, with their chances."""
    check_wants(w, wants)
    chances, _ = behind_wants(w, wants)
    return tuple(sorted(chances.items()))


def mean_bits(w, wants):
    """The mean number of bits that a row of wants takes."""
    check_wants(w, wants)
    _, taken = behind_wants(w, wants)
    return total(taken)


def long_run(w, n):
    """The mean number of bits for each of ever more wants of one kind."""
    check_want(w, n)
    came = walked(1, lambda size: sizes_behind(w, n, size))
    # From any size one comes to the same sizes for good (for all widths and wants): those with the fewest behind them.
    home = min(list(came), key=lambda size: len(walked(size, lambda at: sizes_behind(w, n, at))))
    # From home until it is come to again: the number of bits in the mean, and that of wants.
    bits, drawn = solved({size: until(w, n, size, home) for size in came})[home]
    return divided(bits, drawn)


def sizes_behind(w, n, size):
    """The sizes that a rest can have behind one of this size: if the want is drawn, and if it is not."""
    return (filled_up(w, size) // n,) + sizes_gone_on(w, n, size)


def until(w, n, size, home):
    """The equation of the bits taken and the wants drawn, from a rest of this size until one of the size of home."""
    full = filled_up(w, size)
    shares = {}
    for after, share in zip(sizes_behind(w, n, size), (full - full % n, full % n)):
        if after != home:
            shares[after] = shares.get(after, 0) + share
    scale = full - shares.pop(size, 0)
    return (scale, shares, (full * bits_to_fill(w, size), full - full % n))
