"""The errors that the package raises; each keeps its arguments as attributes."""


class FeltError(ValueError):
    """The base of all errors of this package."""


class BadRatio(FeltError):
    """No ratio: `what` is "top", "bottom", "zero" or "text"."""

    def __init__(self, what):
        self.what = what


class BadPlace(FeltError):
    """No place, or no step."""


class BadDirection(FeltError):
    """No direction."""


class BadAmount(FeltError):
    """No amount."""


class BadSize(FeltError):
    """No ratio above 0."""


class BadPatch(FeltError):
    """No corners of a patch: `what` is "many", "corner" or "turn"."""

    def __init__(self, what):
        self.what = what


class BadTable(FeltError):
    """No table: `what` is "low", "high" or "order"."""

    def __init__(self, what):
        self.what = what


class BadText(FeltError):
    """A text that shows nothing: `row` is its first wrong row, `what` what is wrong there."""

    def __init__(self, row, what):
        self.row = row
        self.what = what


class BadFact(FeltError):
    """No fact: `what` is the part that is wrong."""

    def __init__(self, what):
        self.what = what


class BadCase(FeltError):
    """No case: `index` is the number of a wrong fact, `what` what is wrong."""

    def __init__(self, index, what):
        self.index = index
        self.what = what


class NoFact(FeltError):
    """A case has no fact, or no patch, of this number."""

    def __init__(self, number):
        self.number = number


class NoStones(FeltError):
    """No stone fits the case."""


class BadChoice(FeltError):
    """No choice: `index` is the first wrong entry."""

    def __init__(self, index):
        self.index = index


class NotFit(FeltError):
    """A stone does not fit: `fact` is the first fact that it does not keep, or -1."""

    def __init__(self, fact):
        self.fact = fact


class BadLots(FeltError):
    """No lot of patches: `what` names the lot."""

    def __init__(self, what):
        self.what = what


class NotMet(FeltError):
    """No stone that fits has this amount."""


class BadClaim(FeltError):
    """No claim: `what` is the part that is wrong."""

    def __init__(self, what):
        self.what = what


class NoArea(FeltError):
    """A case is not ruled: `number` is its first Meets."""

    def __init__(self, number):
        self.number = number


class BadCorner(FeltError):
    """The whole has no corner of this number."""

    def __init__(self, number):
        self.number = number


class BadKept(FeltError):
    """No kept lot: `what` is "corner" or "ruler"."""

    def __init__(self, what):
        self.what = what


class TooMany(FeltError):
    """More than the most that are let."""

    def __init__(self, most):
        self.most = most


class BadLine(FeltError):
    """No line of cases."""


class BadReading(FeltError):
    """No reading: `index` is the first wrong one, `what` what is wrong."""

    def __init__(self, index, what):
        self.index = index
        self.what = what


class BadBreadth(FeltError):
    """No breadth."""


class BadBox(FeltError):
    """No box: `what` is the part that is wrong."""

    def __init__(self, what):
        self.what = what


class BadDirections(FeltError):
    """No row of directions: `index` is the first wrong one."""

    def __init__(self, index):
        self.index = index


class BadStone(FeltError):
    """No stone of the table."""


class BadMost(FeltError):
    """No greatest number of liars."""


class BadChange(FeltError):
    """No change: `index` is the first wrong one, `what` what is wrong."""

    def __init__(self, index, what):
        self.index = index
        self.what = what


class BadWish(FeltError):
    """No wish: `index` is the first wrong one."""

    def __init__(self, index):
        self.index = index


class NoNumber(FeltError):
    """No standing fact of a book has this number."""

    def __init__(self, number):
        self.number = number


class BookFull(FeltError):
    """A book has as many facts as it may have."""
