"""Directions along which rulers, whatever they read, leave no doubt whether a place belongs to the stone."""

from feltstone.fitting import full_lot, is_stone
from feltstone.lots import has_all, lots_among
from feltstone.patches import Patch, cut_patch, hull_of, reach_of
from feltstone.places import amount_at, check_place, opposite
from feltstone.ratios import negative
from feltstone.rounds import Parting, part_lots
from feltstone.telling import check_directions

MOST_RULERS = 12
MOST_IN_POOL = 5


class Unsettled:
    """Two stones that fit with the same reaches along some directions: one with a place, the other without it."""

    def __init__(self, one, other):
        self.one = one
        self.other = other

    def __eq__(self, other):
        return isinstance(other, Unsettled) and self.one == other.one and self.other == other.other


def part_beyond(whole, direction, place):
    """The part of the whole that is at or beyond a place of it along a direction."""
    return cut_patch(whole, opposite(direction), negative(amount_at(direction, place)))


def unsettled_by(lot, directions, place):
    """Two stones with the patches of a lot, one with the place, with the same reaches along the directions, or None."""
    if place not in lot[0]:
        return None
    parts = [part_beyond(lot[0], direction, place) for direction in directions]
    told = part_lots([*lot, *parts], (Patch((place,)),))
    if not isinstance(told, Parting):
        return None
    # The second stone reaches as far as the place along each direction, so with the place it reaches no farther.
    return Unsettled(hull_of([place, *told.ones]), hull_of(told.ones))


def settles(case, directions, place):
    """None if the directions settle the place, else two stones that show that they do not."""
    directions = check_directions(directions, MOST_RULERS)
    place = check_place(place)
    return unsettled_by(full_lot(case), directions, place)


def have_same_reaches(one, other, directions):
    """Whether two patches have the same reach along each of the directions."""
    return all([reach_of(one, direction) == reach_of(other, direction) for direction in directions])


def unsettled_fault(case, directions, place, told):
    """The first thing that is wrong with an Unsettled, or None."""
    if not is_stone(case, told.one) or not is_stone(case, told.other):
        return "fits"
    if place not in told.one or place in told.other:
        return "place"
    return None if have_same_reaches(told.one, told.other, directions) else "reach"


def settling_fault(case, directions, place, told):
    """The first thing that is wrong with what is told of the settling of a place, or None."""
    unsettled = settles(case, directions, place)
    if told is None:
        return None if unsettled is None else "none"
    return unsettled_fault(case, directions, place, told) if isinstance(told, Unsettled) else "kind"


def least_settlers(case, pool, place):
    """The lots of indices of a pool whose directions settle the place, and of which no proper part does."""
    pool = check_directions(pool, MOST_IN_POOL)
    place = check_place(place)
    lot, found = full_lot(case), []
    for indices in lots_among(list(range(len(pool))), len(pool)):
        # Shorter lots come first, so all least ones that may be a part of this one are found already.
        if not any([has_all(indices, least) for least in found]):
            if unsettled_by(lot, [pool[index] for index in indices], place) is None:
                found.append(indices)
    return tuple(found)
