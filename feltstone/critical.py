"""Lots of patches along a direction, and the directions at which their order can change."""

from feltstone.errors import BadLots
from feltstone.patches import Patch
from feltstone.places import AXES, across, amount_at, check_direction, opposite, order_round, raw_amount, raw_step
from feltstone.places import whole_direction
from feltstone.ratios import compare, greatest_of, is_row, least_of


def check_lot(lot, what):
    """Raise BadLots with the name of the lot unless it is a list or tuple of one patch or more."""
    if not is_row(lot) or len(lot) == 0 or not all([isinstance(patch, Patch) for patch in lot]):
        raise BadLots(what)


def check_lots(patches, others):
    """Raise BadLots for the first of two lots that is none."""
    check_lot(patches, "patches")
    check_lot(others, "others")


def low_corner(patch, direction):
    """The first corner of a patch that has the least amount."""
    lowest, least = patch.corners[0], raw_amount(direction, patch.corners[0])
    for corner in patch.corners[1:]:
        amount = raw_amount(direction, corner)
        if compare(amount, least) < 0:
            lowest, least = corner, amount
    return lowest


def high_corner(patch, direction):
    """The first corner of a patch that has the greatest amount."""
    return low_corner(patch, opposite(direction))


def low_corners(patches, direction):
    """For each patch of a lot its low_corner."""
    return tuple([low_corner(patch, direction) for patch in patches])


def high_corners(patches, direction):
    """For each patch of a lot its high_corner."""
    return tuple([high_corner(patch, direction) for patch in patches])


def low_places(patches, direction):
    """For each patch of a lot its first corner that has the least amount."""
    check_lot(patches, "patches")
    return low_corners(patches, check_direction(direction))


def high_places(patches, direction):
    """For each patch of a lot its first corner that has the greatest amount."""
    check_lot(patches, "patches")
    return high_corners(patches, check_direction(direction))


def least_reach(patches, direction):
    """The greatest, over the patches of a lot, of the least amounts."""
    return greatest_of([amount_at(direction, place) for place in low_places(patches, direction)])


def greatest_low(patches, direction):
    """The least, over the patches of a lot, of the greatest amounts."""
    return least_of([amount_at(direction, place) for place in high_places(patches, direction)])


def corners_of(patches):
    """The unlike corners of all patches of a lot."""
    return list({corner: True for patch in patches for corner in patch.corners})


def critical_for(patches, others):
    """The critical directions of two lots, in round order."""
    check_lots(patches, others)
    ones, twos = corners_of(patches), corners_of(others)
    steps = [raw_step(one, other) for one in ones for other in twos if one != other]
    normals = [across(whole_direction(x, y)) for x, y in steps]
    return order_round([*AXES, *normals, *[opposite(normal) for normal in normals]])
