"""Directions along which rulers tell a stone from all others, and cases that have one stone alone."""

from feltstone.corners import couples_round
from feltstone.errors import BadDirections, BadStone
from feltstone.facts import Ruler
from feltstone.fitting import check_case, full_lot, is_stone, numbers_of
from feltstone.patches import Patch, halves_of, hull_of, lies_in, part_in_halves, reach_of, touched_by
from feltstone.places import AXES, across, between_of, check_direction, direction_of, is_direction
from feltstone.places import opposite, side_normal, step_from
from feltstone.ratios import is_number_in, is_row

MOST_TOLD = 100


class Single:
    """The result for a case with one stone alone: for each of its corners the number of a patch that is just it."""

    def __init__(self, stone, tellers):
        self.stone = stone
        self.tellers = tellers

    def __eq__(self, other):
        return isinstance(other, Single) and self.stone == other.stone and self.tellers == other.tellers


class Several:
    """The result for a case with several stones: two unlike ones."""

    def __init__(self, one, other):
        self.one = one
        self.other = other

    def __eq__(self, other):
        return isinstance(other, Several) and self.one == other.one and self.other == other.other


def wrong_direction(directions, most):
    """The index of the first entry that keeps this from being a row of at most so many directions, or None."""
    if not is_row(directions) or len(directions) > most:
        return 0
    for index, direction in enumerate(directions):
        if not is_direction(direction):
            return index
    return None


def check_directions(directions, most):
    """A row of at most so many directions as a tuple of tuples."""
    index = wrong_direction(directions, most)
    if index is not None:
        raise BadDirections(index)
    return tuple([check_direction(direction) for direction in directions])


def is_on_table(table, stone):
    """Whether this is a patch that lies in the table."""
    return isinstance(stone, Patch) and lies_in(stone, table.ground)


def check_stone(table, stone):
    """The stone, if it is one of the table."""
    if not is_on_table(table, stone):
        raise BadStone()
    return stone


def ruler_on(stone, direction):
    """The ruler along a direction that touches a stone."""
    direction = check_direction(direction)
    return Ruler(direction, reach_of(stone, direction))


def rulers_on(stone, directions):
    """The rulers along some directions that touch a stone."""
    return tuple([ruler_on(stone, direction) for direction in check_directions(directions, MOST_TOLD)])


def stone_without_corner(lot):
    """The hull of a corner of each patch of a lot that leaves out a corner of the first one, or None.

    All patches of the lot lie in the first one; so there is none only where each corner of it is itself a patch.
    """
    alone = [patch.corners[0] for patch in lot if len(patch) == 1]
    for corner in lot[0].corners:
        if corner not in alone:
            return hull_of([[place for place in patch.corners if place != corner][0] for patch in lot])
    return None


def tellers_of(case):
    """For each corner of the whole the first number of a patch that is just it."""
    rows = [patch.corners for patch in full_lot(case)]
    return tuple([numbers_of(case)[rows.index((corner,))] for corner in case.whole.corners])


def one_stone(case):
    """The one stone of a case with what shows that it is the only one, or two unlike stones."""
    other = stone_without_corner(full_lot(case))
    if other is not None:
        return Several(case.whole, other)
    return Single(case.whole, tellers_of(case))


def is_teller(case, number, corner):
    """Whether this is the number of a patch of the case that is just a corner."""
    return is_number_in(number, numbers_of(case)) and case.patch_at(number).corners == (corner,)


def are_tellers(case, tellers):
    """Whether this is a tuple of the number of a patch for each corner of the whole that is just this corner."""
    if not isinstance(tellers, tuple) or len(tellers) != len(case.whole):
        return False
    return all([is_teller(case, number, corner) for number, corner in zip(tellers, case.whole.corners)])


def single_fault(case, told):
    """The first thing that is wrong with a Single, or None."""
    if case.whole != told.stone:
        return "stone"
    return None if are_tellers(case, told.tellers) else "tellers"


def several_fault(case, told):
    """The first thing that is wrong with a Several, or None."""
    if not is_stone(case, told.one) or not is_stone(case, told.other):
        return "fits"
    return "alike" if told.one == told.other else None


def one_stone_fault(case, told):
    """The first thing that is wrong with what is told of the stones of a case, or None."""
    check_case(case)
    if isinstance(told, Single):
        return single_fault(case, told)
    return several_fault(case, told) if isinstance(told, Several) else "kind"


def tells_wholly(table, stone, directions):
    """None if no other stone of the table has the same reaches along the directions, else such a stone."""
    rulers = rulers_on(check_stone(table, stone), directions)
    whole = part_in_halves(table.ground, [ruler.half for ruler in rulers])
    if whole != stone:
        return whole
    return stone_without_corner([whole, *[touched_by(whole, ruler.direction) for ruler in rulers]])


def telling_fault(table, stone, directions, told):
    """The first thing that is wrong with what is told of the other stones with the same reaches, or None."""
    another = tells_wholly(table, stone, directions)
    if told is None:
        return None if another is None else "none"
    if not is_on_table(table, told):
        return "stone"
    if told == stone:
        return "alike"
    return "reach" if rulers_on(told, directions) != rulers_on(stone, directions) else None


def rims_touched(table, stone):
    """The outward directions of the sides of a table that a stone of it touches."""
    return [way for way, amount in halves_of(table.ground) if reach_of(stone, way) == amount]


def tellers_of_place(rims):
    """As few directions as tell a place that touches the sides of a table with these outward directions."""
    if len(rims) == 2:
        return (opposite(between_of(rims[0], rims[1])),)
    way = rims[0] if rims else AXES[0]
    back = opposite(way)
    rest = (between_of(back, across(way)), between_of(back, across(back)))
    return rest if rims else (way, *rest)


def tellers_of_stretch(stretch, rims):
    """As few directions as tell a stretch that touches the sides of a table with these outward directions."""
    one, other = stretch.corners
    along = direction_of(step_from(one, other))
    sides = [way for way in (across(along), opposite(across(along))) if way not in rims]
    return (along, opposite(along), *sides)


def tellers_of_polygon(polygon, rims):
    """As few directions as tell a polygon that touches the sides of a table with these outward directions."""
    normals = [side_normal(one, other) for one, other in polygon.sides]
    corners = [between_of(one, other) for one, other in couples_round(normals)]
    return (*[way for way in normals if way not in rims], *corners)


def least_tellers(table, stone):
    """As few directions as tell a stone of the table."""
    rims = rims_touched(table, check_stone(table, stone))
    if len(stone) == 1:
        return tellers_of_place(rims)
    return tellers_of_stretch(stone, rims) if len(stone) == 2 else tellers_of_polygon(stone, rims)


def tellers_fault(table, stone, directions):
    """The first thing that keeps a lot of directions from being as few as tell a stone, or None."""
    check_stone(table, stone)
    if wrong_direction(directions, MOST_TOLD) is not None:
        return "directions"
    if tells_wholly(table, stone, directions) is not None:
        return "other"
    return "many" if len(directions) > len(least_tellers(table, stone)) else None
