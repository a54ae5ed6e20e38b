"""Stones of each area from the least to the greatest; areas are told twice as large as they are."""

from feltstone.areas import least_area
from feltstone.kept import check_ruled, hull_at
from feltstone.patches import hull_of
from feltstone.places import check_amount, place_on
from feltstone.ratios import ZERO, compare, minus, over
from feltstone.reaches import check_met
from feltstone.sure import sure_places


def growing_lots(case):
    """Ascending lots of corners: one whose hull has the least area, then each time one corner more, at last all."""
    kept = least_area(case).kept
    lots = [kept]
    for number in range(len(case.whole)):
        if number not in kept:
            lots.append(tuple(sorted([*lots[-1], number])))
    return lots


def growing_stones(case):
    """Stones that fit, from one of the least area to the whole, each in the next one."""
    check_ruled(case)
    for lot in growing_lots(case):
        yield hull_at(case, lot)


def stone_between(case, lot, more, share):
    """The hull of a lot of corners and of a place on the way to the one corner that `more` has besides.

    The way begins at the neighbour of that corner, so the area grows by just that share.
    """
    index = [number in lot for number in more].index(False)
    before, corner = case.whole.corners[more[index - 1]], case.whole.corners[more[index]]
    return hull_of([*hull_at(case, lot).corners, place_on(before, corner, share)])


def stone_of_area(case, twice):
    """A stone that fits with just this twice area."""
    check_ruled(case)
    twice = check_amount(twice)
    lots = growing_lots(case)
    areas = [hull_at(case, lot).twice_area for lot in lots]
    check_met(twice, (areas[0], areas[-1]))
    index = [compare(area, twice) >= 0 for area in areas].index(True)
    if areas[index] == twice:
        return hull_at(case, lots[index])
    share = over(minus(twice, areas[index - 1]), minus(areas[index], areas[index - 1]))
    return stone_between(case, lots[index - 1], lots[index], share)


def area_verdict(case, twice):
    """Whether all stones that fit have at most this twice area, none, or some, with a stone of either kind."""
    check_ruled(case)
    twice = check_amount(twice)
    least = least_area(case)
    if compare(case.whole.twice_area, twice) <= 0:
        return ("always", case.whole, None)
    if compare(least.twice, twice) > 0:
        return ("never", None, case.whole)
    return ("maybe", hull_at(case, least.kept), case.whole)


def sure_area(case):
    """Twice the area of the sure places."""
    sure = sure_places(check_ruled(case))
    return ZERO if sure is None else sure.twice_area
