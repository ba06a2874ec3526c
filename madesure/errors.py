"""The errors by which things handed in are refused."""


class SureError(ValueError):
    """A thing handed in is not what it should be, or is too much."""


class NoKinds(SureError):
    """What should be kinds is none."""


class NoKind(SureError):
    """What should be one of the kinds, or mark, is none."""


class NoMaker(SureError):
    """What should be a maker of the kinds is none."""


class NoTree(SureError):
    """What should be a tree of the kind is none."""


class NoSheet(SureError):
    """What should be a sheet is no triple."""


class NoNames(SureError):
    """What should be names is none."""


class NoTerm(SureError):
    """What should be a term of the sheet is none."""


class NoFormula(SureError):
    """What should be a formula is none: number tells which."""

    def __init__(self, number):
        super().__init__("no formula stands there")
        self.number = number


class NoAnswer(SureError):
    """What should be an answer is none."""


class NoStep(SureError):
    """What should be a step is none."""


class NoPaper(SureError):
    """What should be a paper is none that is shut."""


class NoSums(SureError):
    """What should be spans and sums is none."""


class TooWide(SureError):
    """The sheet is wider than may be decided."""


class NoPlain(SureError):
    """The sheet is not plain."""


class NoCore(SureError):
    """The sheet has an answer, so it has no core."""


class TooMany(SureError):
    """There are more dicts to look at than may be."""


class NoLevel(SureError):
    """No level is begun, or nothing is there to take back."""


class NoDeed(SureError):
    """What should be a deed is none."""


class NoText(SureError):
    """The text writes no such thing."""


class NoLine(SureError):
    """What should be a row for the desk is none."""


class LackError(LookupError):
    """What is asked for by number is not there."""


class NoNumber(LackError):
    """A number that there isn't: number keeps what was handed in."""

    def __init__(self, number):
        # The number itself is not written out: of anything, that may be too deep to write.
        super().__init__("there is no such number")
        self.number = number
