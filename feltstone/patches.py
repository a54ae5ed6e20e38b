"""Patches: convex closed lots of places, told by their corners."""

from math import lcm

from feltstone.corners import corners_hold, corners_in_all, hull_corners, sides_of
from feltstone.errors import BadPatch
from feltstone.places import AXES, amount_at, cross_at, direction_of, grow_place, is_place, mean_place, mirror_place
from feltstone.places import opposite, place_by, side_normal, step_from, turn_place
from feltstone.ratios import greatest_of, is_row, least_of, minus, negative, sum_of


class Patch:
    """A convex closed lot of places."""

    def __init__(self, corners):
        if not is_row(corners) or len(corners) == 0:
            raise BadPatch("many")
        for corner in corners:
            if not is_place(corner):
                raise BadPatch("corner")
        rows = tuple([(x, y) for x, y in corners])
        if hull_corners(rows) != rows:
            raise BadPatch("turn")
        self.corners = rows

    def __len__(self):
        return len(self.corners)

    def __iter__(self):
        return iter(self.corners)

    def __eq__(self, other):
        return isinstance(other, Patch) and self.corners == other.corners

    def __contains__(self, place):
        return corners_hold(self.corners, place)

    @property
    def sides(self):
        """The couples of neighbouring corners, in order."""
        return sides_of(self.corners)

    @property
    def twice_area(self):
        """Twice the area."""
        first = self.corners[0]
        return sum_of([cross_at(first, one, other) for one, other in sides_of(self.corners)])

    @property
    def middle(self):
        """The mean of the corners."""
        return mean_place(self.corners)


def hull_of(places):
    """The least patch that has all places."""
    if not is_row(places) or len(places) == 0:
        raise BadPatch("many")
    return Patch(hull_corners(places))


def patch_or_none(places):
    """The least patch that has all places, or None if there are none."""
    return hull_of(places) if places else None


def box_of(xs, ys):
    """The least patch with sides along the axes that has each place with one number of either row."""
    return hull_of([(x, y) for x in xs for y in ys])


def corner_patches(patch):
    """For each corner the patch of that corner alone."""
    return tuple([Patch((corner,)) for corner in patch.corners])


def whole_corners(patches):
    """The corners of each patch times the least bottom that makes all of them whole, and that bottom."""
    bottom = 1
    for patch in patches:
        for x, y in patch.corners:
            bottom = lcm(bottom, lcm(x[1], y[1]))
    rows = [
        tuple([(x[0] * bottom // x[1], y[0] * bottom // y[1]) for x, y in patch.corners])
        for patch in patches
    ]
    return (tuple(rows), bottom)


def amounts_of(patch, direction):
    """The amounts of the corners, in order."""
    return [amount_at(direction, corner) for corner in patch.corners]


def reach_of(patch, direction):
    """The greatest amount of the places of a patch."""
    return greatest_of(amounts_of(patch, direction))


def low_of(patch, direction):
    """The least amount of the places of a patch."""
    return least_of(amounts_of(patch, direction))


def breadth_of(patch, direction):
    """The greatest amount less the least one."""
    return minus(reach_of(patch, direction), low_of(patch, direction))


def touched_by(patch, direction):
    """The patch of all places with the greatest amount."""
    amounts = amounts_of(patch, direction)
    reach = greatest_of(amounts)
    return hull_of([corner for corner, amount in zip(patch.corners, amounts) if amount == reach])


def normals_of(patch):
    """The directions of the halves of a patch, each with a place at which the half ends."""
    corners = patch.corners
    if len(corners) == 1:
        return [(direction, corners[0]) for direction in AXES]
    if len(corners) == 2:
        one, other = corners
        normal, along = side_normal(one, other), direction_of(step_from(one, other))
        return [(normal, one), (opposite(normal), one), (along, other), (opposite(along), one)]
    return [(side_normal(one, other), one) for one, other in patch.sides]


def halves_of(patch):
    """Halves that have just the places of the patch in common."""
    return tuple([(direction, amount_at(direction, place)) for direction, place in normals_of(patch)])


def part_in_halves(patch, halves):
    """The part of a patch that lies in all halves, or None."""
    return patch_or_none(corners_in_all(patch.corners, halves))


def cut_patch(patch, direction, amount):
    """The part of a patch that lies in the half, or None."""
    return part_in_halves(patch, [(direction, amount)])


def line_patch(patch, direction, amount):
    """The part of a patch that has just this amount, or None."""
    return part_in_halves(patch, [(direction, amount), (opposite(direction), negative(amount))])


def common_patch(one, other):
    """The patch of all places that lie in both, or None."""
    return part_in_halves(one, halves_of(other))


def common_of(patches):
    """The patch of all places that lie in each of some patches, or None."""
    common = patches[0]
    for patch in patches[1:]:
        if common is not None:
            common = common_patch(common, patch)
    return common


def lies_in(one, other):
    """Whether all places of the first patch lie in the second."""
    for corner in one.corners:
        if corner not in other:
            return False
    return True


def shift_patch(patch, step):
    """The patch moved by the step."""
    return Patch([place_by(corner, step) for corner in patch.corners])


def turn_patch(patch):
    """The patch turned left by a quarter about (0, 0)."""
    return hull_of([turn_place(corner) for corner in patch.corners])


def mirror_patch(patch):
    """The patch with the first number of all places turned about."""
    return hull_of([mirror_place(corner) for corner in patch.corners])


def grow_patch(patch, size):
    """The patch with both numbers of all places times a size above 0."""
    return Patch([grow_place(corner, size) for corner in patch.corners])
