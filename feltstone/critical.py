"""Lots of patches along a direction, and the directions at which their order can change."""

from math import gcd

from feltstone.corners import couples_round
from feltstone.errors import BadLots
from feltstone.patches import Patch, hull_of, part_in_halves
from feltstone.places import AXES, across, amount_at, check_direction, opposite, order_round, raw_amount, raw_step
from feltstone.places import side_normal, turn_of, whole_direction
from feltstone.ratios import compare, greatest_of, is_row, least_of, negative, sum_of


def check_lot(lot, what):
    """Raise BadLots with the name of the lot unless it is a list or tuple of one patch or more."""
    if not is_row(lot) or len(lot) == 0 or not all([isinstance(patch, Patch) for patch in lot]):
        raise BadLots(what)


def check_lots(patches, others):
    """Raise BadLots for the first of two lots that is none."""
    check_lot(patches, "patches")
    check_lot(others, "others")


def lowest_place(places, direction):
    """The first of one place or more that has the least amount."""
    lowest, least = places[0], raw_amount(direction, places[0])
    for place in places[1:]:
        amount = raw_amount(direction, place)
        if compare(amount, least) < 0:
            lowest, least = place, amount
    return lowest


def low_corner(patch, direction):
    """The first corner of a patch that has the least amount."""
    return lowest_place(patch.corners, direction)


def high_corner(patch, direction):
    """The first corner of a patch that has the greatest amount."""
    return low_corner(patch, opposite(direction))


def low_corners(patches, direction):
    """For each patch of a lot its low_corner."""
    return tuple([low_corner(patch, direction) for patch in patches])


def high_corners(patches, direction):
    """For each patch of a lot its high_corner."""
    return tuple([high_corner(patch, direction) for patch in patches])


def low_places(patches, direction):
    """For each patch of a lot its first corner that has the least amount."""
    check_lot(patches, "patches")
    return low_corners(patches, check_direction(direction))


def high_places(patches, direction):
    """For each patch of a lot its first corner that has the greatest amount."""
    check_lot(patches, "patches")
    return high_corners(patches, check_direction(direction))


def least_reach(patches, direction):
    """The greatest, over the patches of a lot, of the least amounts."""
    return greatest_of([amount_at(direction, place) for place in low_places(patches, direction)])


def greatest_low(patches, direction):
    """The least, over the patches of a lot, of the greatest amounts."""
    return least_of([amount_at(direction, place) for place in high_places(patches, direction)])


def corners_of(patches):
    """The unlike corners of all patches of a lot."""
    return list({corner: True for patch in patches for corner in patch.corners})


def critical_for(patches, others):
    """The critical directions of two lots, in round order."""
    check_lots(patches, others)
    ones, twos = corners_of(patches), corners_of(others)
    steps = [raw_step(one, other) for one in ones for other in twos if one != other]
    normals = [across(whole_direction(x, y)) for x, y in steps]
    return order_round([*AXES, *normals, *[opposite(normal) for normal in normals]])


def turns_of(patch):
    """Each direction at which the farthest corner of a patch changes, with the one that is farthest to its left."""
    if len(patch) == 1:
        return {}
    return {side_normal(one, other): other for one, other in couples_round(patch.corners)}


def farthest_corners(patch, directions):
    """For each of some directions in round order the corner that is farthest from there on to the next one.

    All directions at which it changes are among them, so two corners are farthest only where the turns tell which.
    """
    turns = turns_of(patch)
    corner = high_corner(patch, directions[0])
    corners = []
    for direction in directions:
        corner = turns.get(direction, corner)
        corners.append(corner)
    return corners


def farthest_round(lots):
    """Rows (direction, next one, corners), once round: what is farthest in each patch, in a row for each lot.

    From each direction to the next one each patch has one farthest corner, so that greatest_low of a lot is there
    the least amount of these corners.
    """
    patches = [patch for lot in lots for patch in lot]
    directions = order_round([*AXES, *[way for patch in patches for way in turns_of(patch)]])
    rows = [[farthest_corners(patch, directions) for patch in lot] for lot in lots]
    return [
        (direction, following, [[row[index] for row in lot] for lot in rows])
        for index, (direction, following) in enumerate(couples_round(directions))
    ]


def is_as_low(one, other, direction):
    """Whether two places have the same amount."""
    return compare(raw_amount(direction, one), raw_amount(direction, other)) == 0


def turns_between(places, direction, following):
    """The directions strictly between two others at which the lowest of some places changes."""
    one, other = lowest_place(places, direction), lowest_place(places, following)
    if is_as_low(one, other, following) or is_as_low(one, other, direction):
        return []
    ways = [opposite(way) for way in turns_of(hull_of(places))]
    return [way for way in ways if turn_of(direction, way) > 0 and turn_of(way, following) > 0]


def lowest_places(rows, direction):
    """For each of some rows of places the first that has the least amount."""
    return [lowest_place(places, direction) for places in rows]


def least_together(rows, direction):
    """The sum of the least amounts of some rows of places."""
    return sum_of([amount_at(direction, place) for place in lowest_places(rows, direction)])


def floors_of(lots):
    """Floors that have just those places above them that all floors have above them.

    A floor is a direction with the sum of the greatest_low of some lots along it; above it is what is not below.
    From one turn of a patch to the next this sum is the least amount of a sum of hulls. A floor of it leans there on
    one corner of the sum, unless a side of a hull lies along it: the floors along the neighbours and along such sides
    shut out what all shut out.
    """
    floors = []
    for direction, following, rows in farthest_round(lots):
        ways = [way for places in rows for way in turns_between(places, direction, following)]
        for way in [direction, *ways]:
            floors.append((way, least_together(rows, way)))
    return floors


def half_of(floor):
    """The half, as patches are cut by it, of all places above a floor."""
    way, amount = floor
    return (opposite(way), negative(amount))


def spread_out(row):
    """The entries of a list in another order, so that entries close to each other come far apart."""
    many = len(row)
    step = many * 5 // 8
    while gcd(step, many) > 1:
        step += 1
    return [row[k * step % many] for k in range(many)]


def part_above(patch, floors):
    """The part of a patch that is above all floors, or None."""
    # Cut in round order, each floor would cut off a little more of the corner that the one before it has made.
    return part_in_halves(patch, [half_of(floor) for floor in spread_out(floors)])
