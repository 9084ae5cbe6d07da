"""A service: programs under names, a stock of bits, and claims that it keeps."""

from drawnbits.best import best_machine
from drawnbits.claims import first_unkept, has_name, is_claim, is_kept, is_name, is_name_of
from drawnbits.errors import BadBits, BadClaim, BadProgram, BadText, BadWay, NothingToRedo, NothingToUndo, Unkept
from drawnbits.leftover import check_want, drawn_behind
from drawnbits.machines import check_bits, run
from drawnbits.programs import check_program, meaning_of, places_within
from drawnbits.texts import standing_of, text_of


class Service:
    """Programs, a stock and claims, with the standings to which deeds can be undone and done again."""

    def __init__(self):
        self._now = ((), (), ())
        self._earlier = []
        self._undone = []

    def standing(self):
        """The triple of the pairs of names and programs, the stock, and the claims."""
        return self._now

    def text(self):
        """The text of the standing."""
        return text_of(self._now)

    def undoable(self):
        """How many deeds can be undone."""
        return len(self._earlier)

    def redoable(self):
        """How many deeds can be done again."""
        return len(self._undone)

    def is_same(self, thing):
        """Whether any value is a service with an equal standing."""
        return isinstance(thing, Service) and thing.standing() == self._now

    def copied(self):
        """A new service with the same standing, and nothing to undo or to redo."""
        return service_with(self._now)

    def put(self, name, program):
        """Puts a program under a name, also in the place of one."""
        if not is_name(name):
            raise BadWay(name)
        check_program(program)
        told, stock, claims = self._now
        programs = dict(told)
        programs[name] = program
        claim = first_unkept(programs, claims, name)
        if claim is not None:
            raise Unkept(claim)
        self._done((tuple(sorted(programs.items())), stock, claims))

    def drop(self, name):
        """Takes a program out."""
        told, stock, claims = self._now
        if not is_name_of(dict(told), name):
            raise BadWay(name)
        for claim in claims:
            if has_name(claim, name):
                raise Unkept(claim)
        self._done((tuple([pair for pair in told if pair[0] != name]), stock, claims))

    def feed(self, bits):
        """Puts bits behind the stock."""
        check_bits(bits)
        self._done((self._now[0], self._now[1] + bits, self._now[2]))

    def draw(self, name):
        """Takes bits from the stock, and gives the outcome of a closed program that is come to with them."""
        told, stock, _ = self._now
        programs = dict(told)
        if not is_name_of(programs, name):
            raise BadWay(name)
        if places_within(programs[name]) != []:
            raise BadProgram(programs[name])
        return self._taken(run(best_machine(meaning_of(programs[name])), stock))

    def roll(self, w, n):
        """Takes bits from the stock, and gives the outcome of a want that is come to with them."""
        check_want(w, n)
        found = drawn_behind(w, (1, 0), n, self._now[1], 0)
        return self._taken(None if found is None else (found[0], found[2]))

    def claim(self, words):
        """Puts a claim behind the others."""
        told, stock, claims = self._now
        programs = dict(told)
        if not is_claim(programs, words) or words in claims:
            raise BadClaim(words)
        if not is_kept(programs, words):
            raise Unkept(words)
        self._done((told, stock, claims + (words,)))

    def release(self, words):
        """Takes a claim out."""
        told, stock, claims = self._now
        # All claims of a service are claims about its programs; what only equals one, as True does 1, is none.
        if not is_claim(dict(told), words) or words not in claims:
            raise BadClaim(words)
        self._done((told, stock, tuple([claim for claim in claims if claim != words])))

    def undo(self):
        """Takes the last deed back."""
        if self._earlier == []:
            raise NothingToUndo()
        self._undone.append(self._now)
        self._now = self._earlier.pop()

    def redo(self):
        """Does the deed again that was taken back last."""
        if self._undone == []:
            raise NothingToRedo()
        self._earlier.append(self._now)
        self._now = self._undone.pop()

    def _done(self, standing):
        """Gives the service the standing that a deed leaves."""
        self._earlier.append(self._now)
        self._undone.clear()
        self._now = standing

    def _taken(self, found):
        """The outcome of what is drawn from the stock: a pair of it and of how many bits it takes; None if too many."""
        told, stock, claims = self._now
        if found is None:
            raise BadBits(stock)
        outcome, many = found
        self._done((told, stock[many:], claims))
        return outcome


def service_with(standing):
    """A new service with a standing, and nothing to undo or to redo."""
    found = Service()
    found._now = standing
    return found


def read_service(text):
    """A new service with the standing that a text tells."""
    if not isinstance(text, str):
        raise BadText(0)
    return Service() if text == "" else service_with(standing_of(text))
