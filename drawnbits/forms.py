"""Forms of programs: the chances of their outcomes as polynomials, and whether two programs mean the same.

A polynomial is a dict from each product to its number, which is not 0.
"""

from drawnbits.common import added, is_like, times
from drawnbits.errors import OtherSize
from drawnbits.programs import are_fillings, check_program, filled_by, meaning_of, places_within, size_of


def form_of(program):
    """The polynomials of the outcomes of a program."""
    check_program(program)
    return form_within(program)


def form_within(program):
    """The form of what is a program."""
    return tuple([tuple(sorted(polynomial.items())) for polynomial in chances_told(program)])


def chances_told(program):
    """The chances of the outcomes of a program, as polynomials."""
    word = program[0]
    if word == "place":
        return unknowns_of(program[1], program[2])
    if places_within(program) == []:
        return [constant(chance) for chance in meaning_of(program)]
    inner = chances_told(program[1])
    if word == "map":
        named = [[part for part, told in zip(inner, program[2]) if told == name] for name in range(program[3])]
        return [summed(parts) for parts in named]
    cases = [chances_told(part) for part in program[2]]
    return [summed([multiplied(one, case[v]) for one, case in zip(inner, cases)]) for v in range(size_of(program))]


def unknowns_of(name, n):
    """The chances of the outcomes of a place, the last one being 1 less all others."""
    found = [{((name, v),): (1, 1)} for v in range(n - 1)]
    less = {((name, v),): (-1, 1) for v in range(n - 1)}
    return found + [summed([constant((1, 1)), less])]


def constant(number):
    """The polynomial of a fraction."""
    return {(): number} if number[0] != 0 else {}


def summed(polynomials):
    """The sum of polynomials."""
    found = {}
    for polynomial in polynomials:
        for unknowns, number in polynomial.items():
            found[unknowns] = added(found.get(unknowns, (0, 1)), number)
    return {unknowns: number for unknowns, number in found.items() if number[0] != 0}


def multiplied(one, other):
    """The product of two polynomials."""
    found = {}
    for unknowns, number in one.items():
        for more, another in other.items():
            both = tuple(sorted(unknowns + more))
            found[both] = added(found.get(both, (0, 1)), times(number, another))
    return {unknowns: number for unknowns, number in found.items() if number[0] != 0}


def are_of_one_size(program, other):
    """Whether two programs have as many outcomes, and their places of one name have so, too."""
    sizes = dict(places_within(other))
    return size_of(program) == size_of(other) and all([sizes.get(name, n) == n for name, n in places_within(program)])


def check_both(program, other):
    """Raises the errors of two values that are no programs with as many outcomes, and so their places."""
    check_program(program)
    check_program(other)
    if not are_of_one_size(program, other):
        raise OtherSize(other)


def places_of_both(program, other):
    """The ascending pairs (name, n) of the places of two programs together."""
    found = dict(places_within(program) + places_within(other))
    return sorted(found.items())


def judge_programs(program, other):
    """A certificate that two programs mean the same for all fillings, or do not."""
    check_both(program, other)
    form = form_within(program)
    if form == form_within(other):
        return ("same", form)
    return ("fillings", fillings_apart(program, other))


def fillings_apart(program, other):
    """Fillings that give two programs unlike meanings, of programs whose forms are not equal."""
    minus = constant((-1, 1))
    differences = []
    for one, another in zip(chances_told(program), chances_told(other)):
        differences.append(summed([one, multiplied(another, minus)]))
    left = [difference for difference in differences if difference != {}][0]
    degree = max([len(unknowns) for unknowns in left])
    found = []
    for name, n in places_of_both(program, other):
        # No unknown gets more than degree parts, so those of one place never come to more than 1 together.
        parts = max(1, degree * (n - 1))
        chances = []
        for v in range(n - 1):
            part = [(k, parts) for k in range(degree + 1) if put_in(left, (name, v), (k, parts)) != {}][0]
            left = put_in(left, (name, v), part)
            chances.append(times(part, (1, 1)))
        found.append((name, with_rest(chances)))
    return tuple(found)


def with_rest(chances):
    """The table of some chances and of what they leave of 1."""
    left = (1, 1)
    for top, bottom in chances:
        left = added(left, (-top, bottom))
    return tuple(chances + [left])


def put_in(polynomial, unknown, number):
    """A polynomial with a number put in for an unknown.

    Of a polynomial that is not 0, so many numbers as its products have unknowns, and one more, do not all make 0.
    """
    found = []
    for unknowns, factor in polynomial.items():
        for _ in range(unknowns.count(unknown)):
            factor = times(factor, number)
        found.append({tuple([other for other in unknowns if other != unknown]): factor})
    return summed(found)


def programs_hold(program, other, thing):
    """Whether any value is a right certificate of judge_programs."""
    check_both(program, other)
    if not isinstance(thing, tuple) or len(thing) != 2:
        return False
    if thing[0] == "same":
        form = form_within(program)
        return is_like(thing[1], form) and form == form_within(other)
    if thing[0] != "fillings" or not are_fillings(thing[1], places_of_both(program, other)):
        return False
    tables = dict(thing[1])
    return meaning_of(filled_by(program, tables)) != meaning_of(filled_by(other, tables))
