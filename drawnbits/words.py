"""Words: rows of bits for outcomes, none of which is a beginning of another one."""

from drawnbits.alike import folded
from drawnbits.common import are_integers, is_above, times, total
from drawnbits.errors import BadNumber, BadRow, BadWords, OtherSize
from drawnbits.figures import common_bottom, digits_of
from drawnbits.machines import are_bits, check_bits, check_machine
from drawnbits.standings import followers, is_out
from drawnbits.tables import MOST_OUTCOMES, check_table

MOST_LENGTH = 30


def are_words(thing):
    """Whether any value is words."""
    if not isinstance(thing, tuple) or not 1 <= len(thing) <= MOST_OUTCOMES:
        return False
    return all([are_bits(word) for word in thing]) and not any([is_begun(thing, i) for i in range(len(thing))])


def is_begun(words, i):
    """Whether another word than that at i begins with it."""
    begun = [other for other in words if other[:len(words[i])] == words[i]]
    return len(begun) > 1


def check_words(words):
    """Raises the error of a value that is no words."""
    if not are_words(words):
        raise BadWords(words)


def are_full(words):
    """Whether no word could be added to words."""
    check_words(words)
    longest = max([len(word) for word in words])
    return sum([1 << (longest - len(word)) for word in words]) == 1 << longest


def first_words(lengths):
    """The first words with these lengths, None if there are none."""
    if not are_integers(lengths, 0, MOST_LENGTH) or not 1 <= len(lengths) <= MOST_OUTCOMES:
        raise BadNumber(lengths)
    return first_of(lengths)


def first_of(lengths):
    """The first words with what are lengths."""
    found = {}
    number = before = 0
    for length, i in sorted([(many, at) for at, many in enumerate(lengths)]):
        # The least row behind the word ahead, as a number; it has too many digits if there is none.
        number = number << (length - before)
        if number >> length > 0:
            return None
        found[i] = digits_of(number, length)
        number, before = number + 1, length
    return tuple([found[i] for i in range(len(lengths))])


def spelt(words, row):
    """The words of a row of outcomes, one behind the other."""
    check_words(words)
    if not are_integers(row, 0, len(words) - 1):
        raise BadRow(row)
    return tuple([bit for i in row for bit in words[i]])


def read(words, bits):
    """The outcomes whose words stand at the beginning of a row of bits, and the bits that are left over."""
    check_words(words)
    check_bits(bits)
    row = []
    left = bits
    while True:
        begun = [i for i, word in enumerate(words) if word != () and left[:len(word)] == word]
        if begun == []:
            return (tuple(row), left)
        row.append(begun[0])
        left = left[len(words[begun[0]]):]


def check_both(words, table):
    """Raises the errors of values that are no words and table of as many outcomes."""
    check_words(words)
    check_table(table)
    if len(table) != len(words):
        raise OtherSize(table)


def mean_of(lengths, table):
    """The mean length of words with these lengths, for a table."""
    return total([times(chance, (length, 1)) for chance, length in zip(table, lengths)])


def lengths_of(words):
    """The lengths of words."""
    return [len(word) for word in words]


def mean_length(words, table):
    """The mean length of words for a table."""
    check_both(words, table)
    return mean_of(lengths_of(words), table)


def least_lengths(table):
    """Lengths of words with the least mean length for a table.

    Two outcomes with the least chances can have the two longest words, which differ in their last bits alone; ahead of
    this bit they are like one outcome.
    """
    bottom = common_bottom(table)
    groups = [(top * (bottom // part), (i,)) for i, (top, part) in enumerate(table)]
    lengths = [0] * len(table)
    while len(groups) > 1:
        groups = sorted(groups)
        (one, members), (other, more) = groups[:2]
        for i in members + more:
            lengths[i] = lengths[i] + 1
        groups = groups[2:] + [(one + other, members + more)]
    return lengths


def least_words(table):
    """Words with the least mean length for a table."""
    check_table(table)
    return first_of(least_lengths(table))


def judge_words(words, table):
    """A certificate that words have the least mean length for a table, or have not."""
    check_both(words, table)
    lengths = least_lengths(table)
    if is_above(mean_of(lengths_of(words), table), mean_of(lengths, table)):
        return ("less", first_of(lengths))
    return ("least",)


def words_hold(words, table, thing):
    """Whether any value is a right certificate of judge_words."""
    check_both(words, table)
    if thing == ("least",):
        return judge_words(words, table) == ("least",)
    if not isinstance(thing, tuple) or len(thing) != 2 or thing[0] != "less" or not are_words(thing[1]):
        return False
    less = thing[1]
    return len(less) == len(table) and is_above(mean_of(lengths_of(words), table), mean_of(lengths_of(less), table))


def machine_of(words):
    """The folded machine that ends just behind each of full words."""
    if not are_full(words):
        raise OtherSize(words)
    inner = {word[:k]: True for word in words for k in range(len(word))}
    places = {row: at for at, row in enumerate(list(inner) + list(words))}
    tosses = [("toss", places[row + (0,)], places[row + (1,)]) for row in inner]
    return folded((len(words), tuple(tosses + [("out", i) for i in range(len(words))])))


def words_of(machine):
    """The words that a machine has, None if it has none."""
    check_machine(machine)
    n, standings = machine
    found = {}
    level = [(0, ())]
    # Of n full words none is longer than n - 1.
    for _ in range(n):
        later = []
        for at, row in level:
            if not is_out(standings[at]):
                later.extend([(after, row + (bit,)) for bit, after in enumerate(followers(standings[at]))])
            elif standings[at][1] in found:
                return None
            else:
                found[standings[at][1]] = row
        level = later
    return tuple([found[i] for i in range(n)]) if level == [] and len(found) == n else None
