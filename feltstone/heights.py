"""The least heights of boxes of a width that hold some stone that fits."""

from feltstone.boxes import low_corners_at
from feltstone.critical import greatest_low, least_reach
from feltstone.errors import BadBox
from feltstone.fitting import full_lot
from feltstone.patches import box_of, halves_of, line_patch, low_of, part_in_halves, reach_of
from feltstone.ratios import ZERO, compare, greatest_of, is_from_zero, is_row, least_of, minus

RIGHT = (1, 0)
UP = (0, 1)


def room_for(lot, width):
    """The patch of the places between the ends of the whole with the x of each low corner that a width lets, or None.

    A width from there on has a place of each patch of the lot.
    """
    first, last = minus(least_reach(lot, RIGHT), width), greatest_low(lot, RIGHT)
    if compare(first, last) > 0:
        return None
    return box_of((first, last), (low_of(lot[0], UP), reach_of(lot[0], UP)))


def height_at(x, roof, floor):
    """How much higher the floor is than the roof at an x."""
    return minus(low_of(line_patch(floor, RIGHT, x), UP), reach_of(line_patch(roof, RIGHT, x), UP))


def height_in(lot, room, width):
    """The least height of a box of a width with a place of each patch of a lot.

    At each x the box must reach down to the roof, the top of the patch that ends lowest, and up to the floor, the
    bottom of the patch that begins highest. Both are chains of straight parts, and the floor bends up and the roof
    down, so the height is least at an end of a part.
    """
    halves = [half for patch in lot for half in halves_of(low_corners_at(patch, width, ZERO))]
    roof = part_in_halves(room, [half for half in halves if half[0][1] > 0])
    floor = part_in_halves(room, [half for half in halves if half[0][1] < 0])
    ends = list({x: True for patch in (roof, floor) for x, _ in patch.corners})
    return greatest_of((ZERO, least_of([height_at(x, roof, floor) for x in ends])))


def height_for(lot, width):
    """The least height for a width, or None if it is too small."""
    room = room_for(lot, width)
    return None if room is None else height_in(lot, room, width)


def least_height(case, width):
    """The least height such that a box of this width and height holds some stone that fits, or None."""
    if not is_from_zero(width):
        raise BadBox("width")
    return height_for(full_lot(case), width)


def least_boxes(case, widths):
    """Each width, in the order told, for which there is a least height, with this height."""
    if not is_row(widths) or not all([is_from_zero(width) for width in widths]):
        raise BadBox("width")
    lot = full_lot(case)
    for width in widths:
        height = height_for(lot, width)
        if height is not None:
            yield (width, height)
