"""An exact coder: the stretches and codes of the ways of a model, and ways drawn from bits."""

from drawnbits.common import added, check_number, is_above, is_power_of_two, lowest, times, total
from drawnbits.figures import digits_of, in_base_two
from drawnbits.machines import check_bits
from drawnbits.models import are_states, check_model, check_way, comings, is_way_of


def is_model(thing):
    """Whether any value is a model."""
    return are_states(thing)


def is_way(model, thing):
    """Whether any value is a way of a model."""
    check_model(model)
    return is_way_of(model, thing)


def stretch(model, way):
    """The stretch of a way: where it begins, and its size."""
    check_way(model, way)
    at = 0
    found = ((0, 1), (1, 1))
    for i in way:
        table, followers = model[at]
        found = stretch_behind(found, table, i)
        at = followers[i]
    return found


def stretch_behind(found, table, i):
    """The stretch of an outcome behind a way, told the stretch of the way and the table behind it."""
    low, size = found
    return (added(low, times(size, total(table[:i]))), times(size, table[i]))


def bits_stretch(bits):
    """The stretch of a row of bits."""
    check_bits(bits)
    return (lowest(in_base_two(bits), 1 << len(bits)), (1, 1 << len(bits)))


def rows_within(found, m):
    """The rows of m bits whose stretches lie within one, as numbers: the first of them, and how many there are."""
    low, size = found
    high = added(low, size)
    first = -(-(low[0] << m) // low[1])
    return (first, max(0, (high[0] << m) // high[1] - first))


def code(model, way):
    """The first of the shortest rows of bits that decide a way."""
    found = stretch(model, way)
    m = 0
    while rows_within(found, m)[1] == 0:
        m = m + 1
    return digits_of(rows_within(found, m)[0], m)


def deciding(model, way, k):
    """The number of rows of k bits that decide a way."""
    found = stretch(model, way)
    check_number(k)
    return rows_within(found, k)[1]


def way_drawn(model, bits, k):
    """The way with k outcomes that the shortest beginning of the bits decides, and its length; None if none does."""
    check_model(model)
    check_bits(bits)
    check_number(k)
    at = 0
    way = []
    found = ((0, 1), (1, 1))
    for m in range(len(bits) + 1):
        told = bits_stretch(bits[:m])
        # What a beginning decides, all longer ones decide, too: so the way only goes on.
        while len(way) < k:
            table, followers = model[at]
            decided = [i for i in comings(table) if lies_within(told, stretch_behind(found, table, i))]
            if decided == []:
                break
            way.append(decided[0])
            found = stretch_behind(found, table, decided[0])
            at = followers[decided[0]]
        if len(way) == k:
            return (tuple(way), m)
    return None


def lies_within(one, other):
    """Whether a stretch lies within another one."""
    return not is_above(other[0], one[0]) and not is_above(added(one[0], one[1]), added(other[0], other[1]))


def mean_bits(model, k):
    """The mean number of bits that decide k outcomes."""
    check_model(model)
    check_number(k)
    borders = borders_of(model, k)
    endless = len([bottom for _, bottom in borders if not is_power_of_two(bottom)])
    found = (0, 1)
    m = 0
    while True:
        # A row of m bits decides nothing as long as some border lies within its stretch, and not at its beginning.
        within = [(top << m) // bottom for top, bottom in borders if (top << m) % bottom > 0]
        rows = {row: True for row in within}
        if len(within) == len(rows) == endless:
            # From now on each border that is left has a row of its own, whose chance is halved by each bit.
            return added(found, lowest(2 * endless, 1 << m))
        found = added(found, lowest(len(rows), 1 << m))
        m = m + 1


def borders_of(model, k):
    """Where the stretches of all ways with k outcomes begin, but for the first one."""
    level = [(0, ((0, 1), (1, 1)))]
    for _ in range(k):
        later = []
        for at, found in level:
            table, followers = model[at]
            later.extend([(followers[i], stretch_behind(found, table, i)) for i in comings(table)])
        level = later
    return [found[0] for _, found in level[1:]]
