"""Spaces and distances between the stones of two cases; distances are told by their squares."""

from feltstone.corners import couples_round
from feltstone.critical import farthest_round, greatest_low, high_places, least_reach, least_together, low_places
from feltstone.critical import lowest_places
from feltstone.evens import corners_together, opposite_patch
from feltstone.fitting import full_lot, is_stone
from feltstone.patches import common_patch, cut_patch, hull_of, low_of, reach_of
from feltstone.places import across, amount_at, check_amount, check_direction, direction_of, is_direction
from feltstone.places import nearest_share, opposite, place_by, place_on, square_along, square_of, step_from
from feltstone.ratios import ZERO, compare, is_ratio, least_of, minus, negative, plus
from feltstone.reaches import check_met
from feltstone.sums import check_both


class Farthest:
    """The greatest square of a distance, and a pair with so much space along the direction."""

    def __init__(self, square, direction, one, other):
        self.square = square
        self.direction = direction
        self.one = one
        self.other = other

    def __eq__(self, other):
        return (
            isinstance(other, Farthest) and self.square == other.square and self.direction == other.direction
            and self.one == other.one and self.other == other.other
        )


def space_between(one, other, direction):
    """The low end of the second patch less the reach of the first."""
    return minus(low_of(other, direction), reach_of(one, direction))


def space_range(case, other, direction):
    """The least and the greatest space of a pair along a direction."""
    direction = check_direction(direction)
    reach, low = least_reach(full_lot(case), direction), greatest_low(full_lot(other), direction)
    return (space_between(case.whole, other.whole, direction), minus(low, reach))


def pair_of_space(case, other, direction, amount):
    """A pair of just this space: what the first whole has up to one amount, and the second from another one on."""
    direction = check_direction(direction)
    amount = check_amount(amount)
    check_met(amount, space_range(case, other, direction))
    low = least_of((plus(reach_of(case.whole, direction), amount), greatest_low(full_lot(other), direction)))
    first = cut_patch(case.whole, direction, minus(low, amount))
    return (first, cut_patch(other.whole, opposite(direction), negative(low)))


def nearest_couple(one, other):
    """A place of each of two patches: of the sums on the rim of the sum of both, theirs is the nearest to (0, 0)."""
    couples = corners_together(one, other)
    nearest, least = None, None
    for (place, target), (next_place, next_target) in couples_round(couples):
        begin = place_by(place, target)
        share = nearest_share(begin, step_from(begin, place_by(next_place, next_target)))
        couple = (place_on(place, next_place, share), place_on(target, next_target, share))
        square = square_of(place_by(couple[0], couple[1]))
        if least is None or compare(square, least) < 0:
            nearest, least = couple, square
    return nearest


def nearest_of(one, other):
    """A place of each of two patches with the least distance, one place twice if they meet."""
    common = common_patch(one, other)
    if common is not None:
        return (common.corners[0], common.corners[0])
    # The steps from the one patch to the other are the sum of the other with the opposite of the one.
    (x, y), place = nearest_couple(opposite_patch(one), other)
    return ((negative(x), negative(y)), place)


def square_between(one, other):
    """The square of the least distance of a place of one patch and a place of another one."""
    place, target = nearest_of(one, other)
    return square_of(step_from(place, target))


def nearest_places(case, other):
    """A place of each of two wholes with the least distance."""
    check_both(case, other)
    return nearest_of(case.whole, other.whole)


def sum_of_two(places):
    """The sum of two places."""
    return place_by(places[0], places[1])


def is_left_of(direction, place):
    """Whether the step from (0, 0) to a place leads to the left of a direction, by less than a half turn."""
    return amount_at(across(direction), place)[0] > 0


def is_right_of(direction, place):
    """Whether the step from (0, 0) to a place leads to the right of a direction, by less than a half turn."""
    return amount_at(across(direction), place)[0] < 0


def inner_ways(direction, following, rows):
    """The direction strictly between two others along which the sum of two rows of places is farthest from (0, 0).

    Along it the least amount of the sum is the distance of its nearest place. Nothing, if there is no such direction:
    so wherever the lowest place along one of both is not to be seen between them, as farther in it is nearer still.
    """
    if not is_left_of(direction, sum_of_two(lowest_places(rows, direction))):
        return []
    if not is_right_of(following, sum_of_two(lowest_places(rows, following))):
        return []
    nearest = sum_of_two(nearest_couple(hull_of(rows[0]), hull_of(rows[1])))
    is_inside = is_left_of(direction, nearest) and is_right_of(following, nearest)
    return [direction_of(nearest)] if is_inside else []


def widest_space(case, other):
    """The greatest square of a space of a pair over that of its direction, and the direction, or None.

    Only spaces above 0 are asked for. From one turn of a patch to the next the greatest space of a pair is the least
    amount of a sum of two hulls; over the length of the direction it is greatest at an end, or towards the nearest
    place of the sum.
    """
    lots = ([opposite_patch(patch) for patch in full_lot(case)], full_lot(other))
    widest = None
    for direction, following, rows in farthest_round(lots):
        for way in [direction, *inner_ways(direction, following, rows)]:
            space = least_together(rows, way)
            square = square_along(space, way)
            if space[0] > 0 and (widest is None or compare(square, widest[0]) > 0):
                widest = (square, way)
    return widest


def distance_range(case, other):
    """The least and the greatest square of the distance of a pair."""
    check_both(case, other)
    widest = widest_space(case, other)
    return (square_between(case.whole, other.whole), ZERO if widest is None else widest[0])


def farthest_pair(case, other):
    """None if every pair meets, else a pair with the greatest distance."""
    widest = widest_space(case, other)
    if widest is None:
        return None
    square, way = widest
    one, two = hull_of(low_places(full_lot(case), way)), hull_of(high_places(full_lot(other), way))
    return Farthest(square, way, one, two)


def is_square_told(told):
    """Whether the space of a Farthest is above 0 and has the square that is told."""
    space, way = space_between(told.one, told.other, told.direction), told.direction
    if space[0] <= 0 or not is_ratio(told.square):
        return False
    return told.square == square_along(space, way)


def farthest_fault(case, other, told):
    """The first thing that is wrong with what is told of the farthest pair of two cases, or None."""
    widest = widest_space(case, other)
    if told is None:
        return None if widest is None else "less"
    if not isinstance(told, Farthest):
        return "kind"
    if not is_direction(told.direction):
        return "direction"
    if not is_stone(case, told.one):
        return "one"
    if not is_stone(other, told.other):
        return "other"
    if not is_square_told(told):
        return "square"
    return "less" if compare(told.square, widest[0]) < 0 else None
