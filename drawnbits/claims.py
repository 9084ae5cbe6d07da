"""Claims about the programs of a service: which there are, and whether they are so."""

from drawnbits.best import least_mean
from drawnbits.common import is_above, is_lot, is_within
from drawnbits.forms import are_of_one_size, form_within
from drawnbits.programs import meaning_of, places_within, size_of
from drawnbits.tables import is_amount

LETTERS = "abcdefghijklmnopqrstuvwxyz"
MOST_LETTERS = 8


def is_name(thing):
    """Whether any value is a name."""
    if not isinstance(thing, str) or not 1 <= len(thing) <= MOST_LETTERS:
        return False
    return all([letter in LETTERS for letter in thing])


def is_name_of(programs, thing):
    """Whether any value is a name of a program, in a dict from names to programs."""
    return isinstance(thing, str) and thing in programs


def is_claim(programs, thing):
    """Whether any value is a claim about programs."""
    if not isinstance(thing, tuple) or len(thing) < 3 or not is_name_of(programs, thing[1]):
        return False
    program = programs[thing[1]]
    if thing[0] == "alike":
        is_pair = len(thing) == 3 and is_name_of(programs, thing[2])
        return is_pair and are_of_one_size(program, programs[thing[2]])
    return places_within(program) == [] and is_claim_of(program, thing)


def is_claim_of(program, thing):
    """Whether a tuple of three items or more is a claim about a closed program alone, whatever name it tells."""
    if thing[0] == "chance":
        is_told = len(thing) == 4 and is_within(thing[2], 0, size_of(program) - 1)
        return is_told and is_amount(thing[3]) and not is_above(thing[3], (1, 1))
    if thing[0] == "bits":
        return len(thing) == 3 and is_amount(thing[2])
    return thing[0] == "sure" and len(thing) == 3 and is_lot(thing[2], size_of(program))


def is_kept(programs, claim):
    """Whether a claim about programs is so."""
    word, program = claim[0], programs[claim[1]]
    if word == "alike":
        return form_within(program) == form_within(programs[claim[2]])
    table = meaning_of(program)
    if word == "chance":
        return table[claim[2]] == claim[3]
    if word == "bits":
        return not is_above(least_mean(table), claim[2])
    return all([i in claim[2] or chance == (0, 1) for i, chance in enumerate(table)])


def has_name(claim, name):
    """Whether a claim has the name of a program in it."""
    return name in (claim[1:] if claim[0] == "alike" else claim[1:2])


def first_unkept(programs, claims, name):
    """The first claim with a name that is none about these programs, or is not so; None if there is none."""
    for claim in claims:
        if has_name(claim, name) and not (is_claim(programs, claim) and is_kept(programs, claim)):
            return claim
    return None
