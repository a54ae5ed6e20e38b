"""The sums and the joint hulls of the stones of two cases: which places are in all of them, and which in some."""

from feltstone.critical import floors_of, least_reach, part_above
from feltstone.evens import sum_patches
from feltstone.fitting import check_case, full_lot
from feltstone.patches import hull_of, reach_of
from feltstone.places import check_direction, check_place
from feltstone.ratios import plus


def check_both(case, other):
    """Raise NoStones if no stone fits one of two cases."""
    check_case(case)
    check_case(other)


def possible_sums(case, other):
    """The patch of all places that lie in the sum of some pair."""
    check_both(case, other)
    return sum_patches(case.whole, other.whole)


def sure_sums_of_lots(patches, others):
    """The patch of all places up to the sum of the least_reach of two lots along each direction, or None.

    The first patch of each lot has all others in it.
    """
    return part_above(sum_patches(patches[0], others[0]), floors_of((patches, others)))


def sure_sums(case, other):
    """The patch of all places that lie in the sum of every pair, or None."""
    return sure_sums_of_lots(full_lot(case), full_lot(other))


def sum_verdict(case, other, place):
    """Whether a place lies in the sum of every pair, of some, or of none."""
    place = check_place(place)
    sure = sure_sums(case, other)
    if sure is not None and place in sure:
        return "always"
    return "maybe" if place in possible_sums(case, other) else "never"


def sum_reach(case, other, direction):
    """The least and the greatest reach of the sum of a pair."""
    direction = check_direction(direction)
    least = plus(least_reach(full_lot(case), direction), least_reach(full_lot(other), direction))
    return (least, plus(reach_of(case.whole, direction), reach_of(other.whole, direction)))


def possible_hulls(case, other):
    """The patch of all places that lie in the joint hull of some pair: the joint hull of both wholes."""
    check_both(case, other)
    return hull_of([*case.whole.corners, *other.whole.corners])


def sure_hulls(case, other):
    """The patch of all places that lie in the joint hull of every pair, or None.

    Along each direction a joint hull reaches at least as far as the farther of both stones must, so just as far as a
    stone must that has a place in each patch of both cases.
    """
    return part_above(possible_hulls(case, other), floors_of(([*full_lot(case), *full_lot(other)],)))
