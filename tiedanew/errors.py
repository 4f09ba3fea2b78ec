"""All errors of the package."""


class WebError(ValueError):
    """What most errors of the package derive from."""


class InvalidBits(WebError):
    """A value is no row of bits, no rows, or no goal."""


class InvalidWeb(WebError):
    """A value is no web, or can't be made one."""


class InvalidLot(WebError):
    """A value is no ascending lot."""


class InvalidRing(WebError):
    """A value is no ring."""


class InvalidMarks(WebError):
    """A value is no marks."""


class InvalidSteps(WebError):
    """A value is no steps."""


class InvalidMember(WebError):
    """A value is no member."""


class InvalidString(WebError):
    """A value is no string of letters."""


class InvalidTour(WebError):
    """A value is no tour."""


class InvalidText(WebError):
    """A value is no text."""


class InvalidClaim(WebError):
    """A value is no claim."""


class InvalidOperation(WebError):
    """Values that do not go together, or not with what is asked."""


class ParseError(WebError):
    """A text is wrong at a spot."""

    def __init__(self, spot):
        self.spot = spot


class InvalidNumber(IndexError):
    """A given value is no number that is meant here."""

    def __init__(self, given):
        self.given = given


class UnknownName(LookupError):
    """Nothing has the wanted name."""

    def __init__(self, wanted):
        self.wanted = wanted


class NothingToUndo(LookupError):
    """There is nothing that could be undone, or done again."""

    def __init__(self, done):
        self.done = done


class TooMany(OverflowError):
    """There would be more than the limit."""

    def __init__(self, limit):
        self.limit = limit


class Refused(ArithmeticError):
    """What is asked can't be done; the reason is a tuple with a word ahead."""

    def __init__(self, reason):
        self.reason = reason
