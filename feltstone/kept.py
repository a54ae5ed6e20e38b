"""Lots of corners of the whole that have a corner of each ruler's patch, and the strides between them."""

from feltstone.errors import BadCorner, BadKept, NoArea, TooMany
from feltstone.facts import Meets
from feltstone.fitting import check_case
from feltstone.lots import has_each, is_ascending, lots_among
from feltstone.patches import hull_of
from feltstone.places import cross_at
from feltstone.ratios import is_row, is_whole, sum_of

MOST_CORNERS_FOR_ALL = 10


def check_ruled(case):
    """The case, if none of its facts is a Meets and some stone fits it."""
    for number, fact in enumerate(case.facts):
        if isinstance(fact, Meets):
            raise NoArea(number)
    return check_case(case)


def is_corner(case, number):
    """Whether this is the number of a corner of the whole."""
    return is_whole(number, 0, len(case.whole) - 1)


def check_corner(case, number):
    """The number of a corner of the whole."""
    check_ruled(case)
    if not is_corner(case, number):
        raise BadCorner(number)
    return number


def corner_numbers(case, patch):
    """The ascending numbers of the corners of the whole that are corners of a ruler's patch."""
    return tuple([number for number, corner in enumerate(case.whole.corners) if corner in patch.corners])


def ruler_ends(case):
    """For each ruler its number and the corners of its patch."""
    check_ruled(case)
    patches = [(number, patch) for number, patch in case.patches if number >= 0]
    return tuple([(number, corner_numbers(case, patch)) for number, patch in patches])


def ends_alone(case):
    """For each ruler the corners of its patch."""
    return [ends for _, ends in ruler_ends(case)]


def corners_touched(case):
    """The ascending corners that are the whole patch of some ruler."""
    touched = [ends[0] for ends in ends_alone(case) if len(ends) == 1]
    return tuple([number for number in range(len(case.whole)) if number in touched])


def stride_corners(many, one, other):
    """The corners of a stride in order, of so many: where it begins, what it passes, and where it ends."""
    steps = (other - one) % many or many
    return [(one + step) % many for step in range(steps + 1)]


def passes_all(passed, ends):
    """Whether all of a ruler's corners are passed."""
    return all([end in passed for end in ends])


def is_let(case, one, other):
    """Whether a stride passes no ruler's patch."""
    passed = stride_corners(len(case.whole), one, other)[1:-1]
    return not any([passes_all(passed, ends) for ends in ends_alone(case)])


def stride_loss(case, one, other):
    """Twice the area that the straight line of a stride cuts away."""
    places = [case.whole.corners[number] for number in stride_corners(len(case.whole), one, other)]
    return sum_of([cross_at(places[0], first, second) for first, second in zip(places, places[1:])])


def stride_is_let(case, one, other):
    """Whether a stride from a corner to a corner passes no ruler's patch."""
    return is_let(case, check_corner(case, one), check_corner(case, other))


def loss_of(case, one, other):
    """Twice the area that the straight line of a stride from a corner to a corner cuts away."""
    return stride_loss(case, check_corner(case, one), check_corner(case, other))


def is_corner_row(case, kept):
    """Whether this is a list or tuple of strictly ascending corners, of one or more."""
    if not is_row(kept) or len(kept) == 0 or not all([is_corner(case, number) for number in kept]):
        return False
    return is_ascending(kept)


def kept_word(case, kept):
    """What keeps this from being a kept lot, or None."""
    if not is_corner_row(case, kept):
        return "corner"
    return None if has_each(kept, ends_alone(case)) else "ruler"


def check_kept(case, kept):
    """The kept lot as a tuple."""
    check_ruled(case)
    what = kept_word(case, kept)
    if what is not None:
        raise BadKept(what)
    return tuple(kept)


def hull_at(case, numbers):
    """The hull of the corners with these numbers."""
    return hull_of([case.whole.corners[number] for number in numbers])


def kept_hull(case, kept):
    """The hull of a kept lot."""
    return hull_at(case, check_kept(case, kept))


def is_tight(rows, kept):
    """Whether corners have one of each row, and no lot is left that has if any one of them is left out."""
    if len(kept) == 0 or not has_each(kept, rows):
        return False
    rests = [[one for one in kept if one != number] for number in kept]
    return not any([len(rest) > 0 and has_each(rest, rows) for rest in rests])


def tight_lots(case):
    """All tight kept lots, one by one: those of fewer corners first, then ascending."""
    rows = ends_alone(case)
    if len(case.whole) > MOST_CORNERS_FOR_ALL:
        raise TooMany(MOST_CORNERS_FOR_ALL)
    many = len(case.whole)
    for lot in lots_among(list(range(many)), many):
        if is_tight(rows, lot):
            yield lot
