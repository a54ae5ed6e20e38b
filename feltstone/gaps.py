"""Gaps: the least breadths of stones along any direction, told as squares of distances."""

from feltstone.critical import floors_of
from feltstone.errors import BadBreadth
from feltstone.evens import opposite_patch, sum_patches
from feltstone.fitting import full_lot, is_stone
from feltstone.patches import breadth_of, halves_of
from feltstone.places import AXES, across, direction_of, is_direction, side_normal, square_along, step_from
from feltstone.ratios import ZERO, compare, greatest_of, is_from_zero, is_ratio, negative, times
from feltstone.reaches import breadth_range, stone_of_breadth


class Gap:
    """The least gap of a stone that fits, and a stone whose breadth along the direction has it."""

    def __init__(self, square, direction, stone):
        self.square = square
        self.direction = direction
        self.stone = stone

    def __eq__(self, other):
        return (
            isinstance(other, Gap) and self.square == other.square
            and self.direction == other.direction and self.stone == other.stone
        )


def breadths_at_sides(patch):
    """The breadths of a polygon by the outward directions of its sides."""
    # The sum with the opposite has all these sides, and reaches along each direction as far as the patch is broad.
    both = sum_patches(patch, opposite_patch(patch))
    return {way: breadth for way, breadth in halves_of(both)}


def least_at_sides(patch):
    """The outward direction of the first side of a polygon along which its breadth is least, and the square of it."""
    breadths = breadths_at_sides(patch)
    found, least = None, None
    for one, other in patch.sides:
        way = side_normal(one, other)
        square = square_along(breadths[way], way)
        if least is None or compare(square, least) < 0:
            found, least = way, square
    return (found, least)


def least_breadth(patch):
    """A direction along which a patch is least broad, and the square of this breadth as a distance."""
    if len(patch) == 1:
        return (AXES[0], ZERO)
    if len(patch) == 2:
        one, other = patch.corners
        return (across(direction_of(step_from(one, other))), ZERO)
    return least_at_sides(patch)


def narrowest(case):
    """The least gap of a stone that fits, and a direction along which some stone has it.

    Between two neighbouring floors the least breadth hangs on the same two corners. Over the length of the direction
    it is, while above 0, like the cosine of a turn of less than a quarter: least at an end.
    """
    lot = full_lot(case)
    found, least = None, None
    for way, overlap in floors_of((lot, [opposite_patch(patch) for patch in lot])):
        square = square_along(greatest_of((ZERO, negative(overlap))), way)
        if least is None or compare(square, least) < 0:
            found, least = way, square
    return (least, found)


def gap_range(case):
    """The least and the greatest gap of a stone that fits."""
    return (narrowest(case)[0], least_breadth(case.whole)[1])


def least_gap(case):
    """The least gap of a stone that fits."""
    square, way = narrowest(case)
    return Gap(square, way, stone_of_breadth(case, way, breadth_range(case, way)[0]))


def gap_fault(case, gap):
    """The first thing that is wrong with a Gap, or None."""
    least = narrowest(case)[0]
    if not is_ratio(gap.square) or gap.square != least:
        return "square"
    if not is_direction(gap.direction):
        return "direction"
    if not is_stone(case, gap.stone):
        return "stone"
    return None if square_along(breadth_of(gap.stone, gap.direction), gap.direction) == least else "stone"


def goes_through(case, breadth):
    """Whether all stones that fit go through an opening of this breadth, none, or some."""
    if not is_from_zero(breadth):
        raise BadBreadth()
    square = times(breadth, breadth)
    least, greatest = gap_range(case)
    if compare(greatest, square) <= 0:
        return "always"
    return "never" if compare(least, square) > 0 else "maybe"
