"""Ratios: exact numbers, each a tuple (top, bottom) in lowest terms with a bottom above 0."""

from math import gcd

from feltstone.errors import BadRatio

ZERO = (0, 1)
ONE = (1, 1)
HALF = (1, 2)

MOST_FIGURES = 300
FIGURES = "0123456789"


def is_row(thing):
    """Whether a thing is a sequence as arguments have them: a list or a tuple."""
    return isinstance(thing, (list, tuple))


def is_whole(thing, low=None, high=None):
    """Whether a thing is a whole number, not below low and not above high."""
    if not isinstance(thing, int) or isinstance(thing, bool):
        return False
    return (low is None or thing >= low) and (high is None or thing <= high)


def is_number_in(thing, numbers):
    """Whether this is one of some whole numbers."""
    return is_whole(thing) and thing in numbers


def is_ratio(thing):
    """Whether a thing is a ratio."""
    if not isinstance(thing, tuple) or len(thing) != 2:
        return False
    return is_whole(thing[0]) and is_whole(thing[1], 1) and gcd(thing[0], thing[1]) == 1


def is_from_zero(thing):
    """Whether a thing is a ratio that is not below 0."""
    return is_ratio(thing) and thing[0] >= 0


def lowest_terms(top, bottom):
    """The ratio of two whole numbers; the bottom is not 0, but may be below 0."""
    if bottom == 1:
        return (top, 1)
    share = gcd(top, bottom)
    if bottom < 0:
        share = -share
    return (top // share, bottom // share)


def make_ratio(top, bottom=1):
    """Top divided by bottom."""
    if not is_whole(top):
        raise BadRatio("top")
    if not is_whole(bottom) or bottom == 0:
        raise BadRatio("bottom")
    return lowest_terms(top, bottom)


def plus(one, other):
    """The sum of two ratios."""
    if one[1] == other[1]:
        return lowest_terms(one[0] + other[0], one[1])
    return lowest_terms(one[0] * other[1] + other[0] * one[1], one[1] * other[1])


def minus(one, other):
    """The first ratio less the second."""
    return plus(one, negative(other))


def times(one, other):
    """The product of two ratios."""
    return lowest_terms(one[0] * other[0], one[1] * other[1])


def over(one, other):
    """The first ratio divided by the second."""
    if other[0] == 0:
        raise BadRatio("zero")
    return lowest_terms(one[0] * other[1], one[1] * other[0])


def negative(one):
    """0 less the ratio."""
    return (-one[0], one[1])


def sign_of(number):
    """-1, 0 or 1 as a whole number is below, equal to or above 0."""
    if number < 0:
        return -1
    if number > 0:
        return 1
    return 0


def compare(one, other):
    """-1, 0 or 1 as the first is below, equal to or above the second; neither needs lowest terms."""
    return sign_of(one[0] * other[1] - other[0] * one[1])


def sum_of(row):
    """The sum of a row of ratios."""
    total = ZERO
    for one in row:
        total = plus(total, one)
    return total


def least_of(row):
    """The least of one ratio or more."""
    least = row[0]
    for one in row:
        if compare(one, least) < 0:
            least = one
    return least


def greatest_of(row):
    """The greatest of one ratio or more."""
    greatest = row[0]
    for one in row:
        if compare(one, greatest) > 0:
            greatest = one
    return greatest


def whole_text(number):
    """The text of a whole number of any length."""
    if number < 0:
        return "-" + whole_text(-number)
    # Python refuses to write some thousand figures at once, so long numbers are written in pieces of 60.
    limit = 10 ** 60
    pieces = []
    while number >= limit:
        number, low = divmod(number, limit)
        pieces.append(str(low).zfill(60))
    pieces.append(str(number))
    return "".join(pieces[::-1])


def ratio_text(one):
    """The text of a ratio: its top and, unless it is 1, a slash and its bottom."""
    if one[1] == 1:
        return whole_text(one[0])
    return whole_text(one[0]) + "/" + whole_text(one[1])


def is_figures(text):
    """Whether a text is a row of figures, of as many as a number may have."""
    return 1 <= len(text) <= MOST_FIGURES and all([sign in FIGURES for sign in text])


def ratio_of(text):
    """The ratio whose text is just this one."""
    if not isinstance(text, str):
        raise BadRatio("text")
    top, slash, bottom = text.partition("/")
    if slash == "":
        bottom = "1"
    if not is_figures(top.removeprefix("-")) or not is_figures(bottom):
        raise BadRatio("text")
    one = (int(top), int(bottom))
    # A text with needless signs shows a ratio too, but it is not the text of that ratio.
    if not is_ratio(one) or ratio_text(one) != text:
        raise BadRatio("text")
    return one
