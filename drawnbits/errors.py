"""The errors of the package: one class for each kind of failure."""


class DrawError(Exception):
    """The base class of all errors of the package."""


class BadFraction(DrawError):
    """A value is no fraction of the kind that is asked for."""

    def __init__(self, thing):
        self.thing = thing


class BadTable(DrawError):
    """A value is no table, or not one that is asked for."""

    def __init__(self, thing):
        self.thing = thing


class BadOutcome(DrawError):
    """A value is no outcome, or no names of outcomes."""

    def __init__(self, thing):
        self.thing = thing


class BadLot(DrawError):
    """A value is no lot of outcomes, or one with the chance 0."""

    def __init__(self, thing):
        self.thing = thing


class BadNumber(DrawError):
    """A value is no number of the kind that is asked for."""

    def __init__(self, thing):
        self.thing = thing


class BadBits(DrawError):
    """A value is no row of bits, or its bits are too few."""

    def __init__(self, thing):
        self.thing = thing


class BadFigures(DrawError):
    """A value is no figures of a fraction."""

    def __init__(self, thing):
        self.thing = thing


class BadMachine(DrawError):
    """A value is no coin machine."""

    def __init__(self, thing):
        self.thing = thing


class BadProgram(DrawError):
    """A value is no program, or not a closed one."""

    def __init__(self, thing):
        self.thing = thing


class BadFillings(DrawError):
    """A value is no fillings that fit the program."""

    def __init__(self, thing):
        self.thing = thing


class BadModel(DrawError):
    """A value is no model."""

    def __init__(self, thing):
        self.thing = thing


class BadRow(DrawError):
    """A value is no row, or no counts, of the kind that is asked for."""

    def __init__(self, thing):
        self.thing = thing


class BadWords(DrawError):
    """A value is no words."""

    def __init__(self, thing):
        self.thing = thing


class BadWay(DrawError):
    """A value is no way of the model, or no name."""

    def __init__(self, thing):
        self.thing = thing


class OtherSize(DrawError):
    """A value has another number of outcomes than is asked for."""

    def __init__(self, thing):
        self.thing = thing


class Endless(DrawError):
    """A machine does not end surely; the certificate shows it."""

    def __init__(self, certificate):
        self.certificate = certificate


class TooMany(DrawError):
    """There would be more than the most that there can be."""

    def __init__(self, most):
        self.most = most


class BadClaim(DrawError):
    """A value is no claim, or none that can be put in or taken out."""

    def __init__(self, thing):
        self.thing = thing


class Unkept(DrawError):
    """A claim is not so, or would not be so any more."""

    def __init__(self, claim):
        self.claim = claim


class NothingToUndo(DrawError):
    """No deed is left that could be undone."""

    def __init__(self):
        pass


class NothingToRedo(DrawError):
    """No deed is left that could be done again."""

    def __init__(self):
        pass


class BadText(DrawError):
    """A value is no text of a service; at tells the first wrong line."""

    def __init__(self, at):
        self.at = at
