"""How far the stones that fit reach along a direction, and how broad they are."""

from feltstone.critical import greatest_low, least_reach, low_places
from feltstone.errors import NotMet
from feltstone.fitting import full_lot
from feltstone.patches import breadth_of, cut_patch, part_in_halves, reach_of
from feltstone.places import check_amount, check_direction, opposite
from feltstone.ratios import compare, least_of, minus, negative, plus


def check_met(amount, ends):
    """Raise NotMet unless the amount lies from the first to the second of two ratios."""
    least, greatest = ends
    if compare(amount, least) < 0 or compare(amount, greatest) > 0:
        raise NotMet()


def part_between(patch, direction, low, high):
    """The part of a patch with the amounts from low to high, or None."""
    return part_in_halves(patch, [(direction, high), (opposite(direction), negative(low))])


def reach_range(case, direction):
    """The least and the greatest reach of a stone that fits."""
    direction = check_direction(direction)
    return (least_reach(full_lot(case), direction), reach_of(case.whole, direction))


def stone_of_reach(case, direction, amount):
    """A stone that fits with this reach: what the whole has up to there, as each patch has a place that far down."""
    direction = check_direction(direction)
    amount = check_amount(amount)
    check_met(amount, reach_range(case, direction))
    return cut_patch(case.whole, direction, amount)


def least_reaching(case, direction):
    """A choice of the least reach."""
    direction = check_direction(direction)
    return low_places(full_lot(case), direction)


def inner_span(case, direction):
    """The amounts from which to which the part of the whole fits that has the least breadth."""
    lot = full_lot(case)
    reach = least_reach(lot, direction)
    return (least_of((greatest_low(lot, direction), reach)), reach)


def breadth_range(case, direction):
    """The least and the greatest breadth of a stone that fits."""
    direction = check_direction(direction)
    low, high = inner_span(case, direction)
    return (minus(high, low), breadth_of(case.whole, direction))


def stone_of_breadth(case, direction, amount):
    """A stone that fits with this breadth: a part of the whole round the narrowest one that fits."""
    direction = check_direction(direction)
    amount = check_amount(amount)
    check_met(amount, breadth_range(case, direction))
    low, _ = inner_span(case, direction)
    high = least_of((plus(low, amount), reach_of(case.whole, direction)))
    return part_between(case.whole, direction, minus(high, amount), high)


def sure_span(case, direction):
    """The least and the greatest amount that each stone that fits has somewhere, or None if there is none."""
    direction = check_direction(direction)
    lot = full_lot(case)
    low, high = greatest_low(lot, direction), least_reach(lot, direction)
    return None if compare(low, high) > 0 else (low, high)
