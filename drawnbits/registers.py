"""A coder in registers of w bits: what it writes and reads, what it really draws, and how much can wait."""

from drawnbits.common import added, check_number, is_number, is_within, lowest, times, total
from drawnbits.errors import BadNumber, BadWay
from drawnbits.figures import in_base_two
from drawnbits.machines import check_bits
from drawnbits.models import check_model, comings, is_way_of
from drawnbits.walks import steps_to, walked

LEAST_WIDTH = 3
MOST_WIDTH = 16


def half_of(w):
    """The number H of a register coder."""
    return 1 << (w - 1)


def quarter_of(w):
    """The number Q of a register coder."""
    return 1 << (w - 2)


def does_fit(model, w):
    """Whether a width fits a model: no outcome that can come ever gets the size 0."""
    for table, _ in model:
        if [table[i] for i in comings(table) if table[i][0] * (quarter_of(w) + 1) < table[i][1]]:
            return False
    return True


def check_width(model, w):
    """Raises the errors of values that are no model and width that fits it."""
    check_model(model)
    if not is_within(w, LEAST_WIDTH, MOST_WIDTH) or not does_fit(model, w):
        raise BadNumber(w)


def check_written(model, w, way):
    """Raises the errors of values that are no model, width that fits it and way of it."""
    check_width(model, w)
    if not is_way_of(model, way):
        raise BadWay(way)


def ends_of(table, size, i):
    """Where the part of an outcome begins and ends in a register of this size: a and b of [11.1]."""
    low = total(table[:i])
    high = added(low, table[i])
    return (size * low[0] // low[1], size * high[0] // high[1])


def widened(w, low, size):
    """The lower end and the size when no case holds any more, and what was taken off the lower end in each case."""
    half, quarter = half_of(w), quarter_of(w)
    bases = []
    while True:
        if low + size <= half:
            base = 0
        elif low >= half:
            base = half
        elif low >= quarter and low + size <= half + quarter:
            base = quarter
        else:
            return (low, size, bases)
        low, size = 2 * (low - base), 2 * size
        bases.append(base)


def gone_on(model, w, at, low, size, i):
    """The state, the lower end and the size behind one more outcome, and what was taken off in each case."""
    table, followers = model[at]
    begin, end = ends_of(table, size, i)
    return (followers[i],) + widened(w, low + begin, end - begin)


def gone_through(model, w, way):
    """The state and the triple of the register behind a way, and the bits that have gone out."""
    at, low, size, waiting = 0, 0, 1 << w, 0
    out = []
    for i in way:
        at, low, size, bases = gone_on(model, w, at, low, size, i)
        for base in bases:
            if base == quarter_of(w):
                waiting = waiting + 1
            else:
                out.extend(bit_and_waiting(0 if base == 0 else 1, waiting))
                waiting = 0
    return (at, (low, size, waiting), out)


def bit_and_waiting(bit, waiting):
    """A bit that goes out, with the bits that waited behind it."""
    return [bit] + [1 - bit] * waiting


def register_behind(model, w, way):
    """The lower end, the size and how many bits are waiting behind a way."""
    check_written(model, w, way)
    return gone_through(model, w, way)[1]


def written(model, w, way):
    """The bits that are written for a way, those at its end, too."""
    check_written(model, w, way)
    _, (low, size, waiting), out = gone_through(model, w, way)
    if (low, size, waiting) == (0, 1 << w, 0):
        return tuple(out)
    return tuple(out + bit_and_waiting(0 if low < quarter_of(w) else 1, waiting + 1))


def real_chance(model, w, way):
    """The chance that a way is read from plain bits."""
    check_written(model, w, way)
    at, low, size = 0, 0, 1 << w
    found = (1, 1)
    for i in way:
        begin, end = ends_of(model[at][0], size, i)
        found = times(found, lowest(end - begin, size))
        at, low, size, _ = gone_on(model, w, at, low, size, i)
    return found


def way_read(model, w, bits, k):
    """The way of k outcomes that is read from a row of bits, and from bits 0 behind it."""
    check_width(model, w)
    check_bits(bits)
    check_number(k)
    at, low, size = 0, 0, 1 << w
    value = in_base_two((bits + (0,) * w)[:w])
    taken = w
    way = []
    for _ in range(k):
        way.append(outcome_at(model[at][0], size, value - low))
        at, low, size, bases = gone_on(model, w, at, low, size, way[-1])
        for base in bases:
            value = 2 * (value - base) + (bits[taken] if taken < len(bits) else 0)
            taken = taken + 1
    return tuple(way)


def outcome_at(table, size, place):
    """The outcome in whose part of a register of this size a place lies."""
    i = 0
    while ends_of(table, size, i)[1] <= place:
        i = i + 1
    return i


def judge_waiting(model, w):
    """A certificate of the most bits that can wait, or that ever more can."""
    check_width(model, w)
    start = (0, 0, 1 << w)
    came = walked(start, lambda node: [step[0] for step in steps_of(model, w, node)])
    steps = {node: steps_of(model, w, node) for node in came}
    for node in came:
        more = growing(steps, node)
        if more is not None:
            return ("grows", steps_to(came, node), more)
    # Only so many bits wait with each node: so these pairs come to an end, too.
    ways = walked((start, 0), lambda pair: [waited(pair[1], step) for step in steps[pair[0]]])
    number = max([waiting for _, waiting in ways])
    first = [pair for pair in ways if pair[1] == number][0]
    return ("most", number, steps_to(ways, first))


def steps_of(model, w, node):
    """For each outcome of a state, lower end and size: what is behind it, and what it does to waiting.

    The latter are two: whether a bit goes out, so that nothing waits any more, and how many bits then begin to wait.
    Once a bit waits the middle of the register lies within the stretch, and no bit goes out for the same outcome.
    An outcome that cannot come is told as if it changed nothing.
    """
    at, low, size = node
    found = [(node, False, 0)] * len(model[at][0])
    for i in comings(model[at][0]):
        after, begin, width, bases = gone_on(model, w, at, low, size, i)
        many = bases.count(quarter_of(w))
        found[i] = ((after, begin, width), len(bases) > many, many)
    return found


def waited(waiting, step):
    """What is behind a step, and how many bits wait there, told how many wait ahead of it."""
    after, is_out, many = step
    return (after, many if is_out else waiting + many)


def growing(steps, node):
    """Outcomes that lead from a node back to it, without a bit that goes out, but with more that wait; None if none."""
    for i, (after, is_out, many) in enumerate(steps[node]):
        if not is_out and many > 0:
            back = walked(after, lambda at: [at if step[1] else step[0] for step in steps[at]])
            if node in back:
                return (i,) + steps_to(back, node)
    return None


def waiting_holds(model, w, thing):
    """Whether any value is a right certificate of judge_waiting."""
    check_width(model, w)
    if not isinstance(thing, tuple) or len(thing) != 3:
        return False
    if thing[0] == "most":
        return is_number(thing[1]) and is_most(model, w, thing[1], thing[2])
    return thing[0] == "grows" and does_grow(model, w, thing[1], thing[2])


def is_most(model, w, number, way):
    """Whether so many bits wait behind any value that is a way, and never more."""
    if not is_way_of(model, way) or gone_through(model, w, way)[1][2] != number:
        return False
    return judge_waiting(model, w)[:2] == ("most", number)


def does_grow(model, w, way, more):
    """Whether two values are a way and more outcomes by which only waiting changes, and becomes greater."""
    if not isinstance(way, tuple) or not isinstance(more, tuple) or not is_way_of(model, way + more):
        return False
    at, (low, size, waiting), out = gone_through(model, w, way)
    after, (begin, width, later), sent = gone_through(model, w, way + more)
    return (at, low, size, out) == (after, begin, width, sent) and later > waiting
