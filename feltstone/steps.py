"""Steps by which the second stones of pairs are shifted, so that they meet the first ones or have them in them."""

from feltstone.evens import opposite_patch, sum_patches
from feltstone.fitting import check_case, full_lot
from feltstone.patches import common_of, halves_of, part_in_halves, reach_of, shift_patch
from feltstone.places import opposite
from feltstone.ratios import minus
from feltstone.sums import check_both, sure_sums_of_lots
from feltstone.sure import sure_places


def sure_steps(case, other):
    """The patch of all steps by which every pair meets, or None."""
    # A step leads from a place of the second stone to one of the first: it is a sum of one with an opposite of one.
    return sure_sums_of_lots(full_lot(case), [opposite_patch(patch) for patch in full_lot(other)])


def possible_steps(case, other):
    """The patch of all steps by which some pair meets."""
    check_both(case, other)
    return sum_patches(case.whole, opposite_patch(other.whole))


def steps_into(one, other):
    """The patch of all steps by which the second patch has the first in it, or None."""
    begin = shift_patch(opposite_patch(other), one.corners[0])
    # A half of the shifted patch ends where the half of the patch does, farther by the amount of the step.
    halves = [(opposite(way), minus(amount, reach_of(one, way))) for way, amount in halves_of(other)]
    return part_in_halves(begin, halves)


def sure_holds(case, other):
    """The patch of all steps by which the first stone lies in the second one in every pair, or None."""
    check_case(case)
    sure = sure_places(other)
    return None if sure is None else steps_into(case.whole, sure)


def possible_holds(case, other):
    """The patch of all steps by which the first stone lies in the second one in some pair, or None."""
    check_both(case, other)
    back = opposite_patch(other.whole)
    return common_of([sum_patches(patch, back) for patch in full_lot(case)])
