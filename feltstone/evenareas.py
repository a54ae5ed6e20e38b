"""The areas of patches that fit calipers, all told twice as large as they are."""

from feltstone.calipers import check_readings, full_even_whole, rims_of
from feltstone.corners import couples_round
from feltstone.lots import has_all, has_each, is_ascending, lots_among
from feltstone.patches import whole_corners
from feltstone.ratios import is_ratio, is_row, is_whole, lowest_terms


class LeastEven:
    """The least twice area of an even patch that fits, and a lot of corners whose hull has it."""

    def __init__(self, twice, kept):
        self.twice = twice
        self.kept = kept

    def __eq__(self, other):
        return isinstance(other, LeastEven) and self.twice == other.twice and self.kept == other.kept


def greatest_caliper_area(readings):
    """Twice the area of the even whole."""
    return full_even_whole(check_readings(readings)).twice_area


def with_opposites(many, numbers):
    """The lot of some corners of an even patch of so many corners, and of those opposite to them."""
    # The opposite of a corner is half of all corners on; a place is its own.
    half = (many + 1) // 2
    return tuple([number for number in range(many) if number % half in numbers])


def rim_corners(even, readings):
    """For each reading the numbers of the corners of the even whole that lie in its rim."""
    rims = rims_of(even, readings)
    return [[number for number, corner in enumerate(even.corners) if corner in rim.corners] for rim in rims]


def even_lots(many, rows):
    """All even lots of the corners of an even patch of so many corners, with a corner of each row."""
    half = (many + 1) // 2
    lots = [with_opposites(many, numbers) for numbers in lots_among(list(range(half)), half)]
    return [lot for lot in lots if has_each(lot, rows)]


def lot_area(corners, lot):
    """Twice the area of the hull of some corners of a patch, told by whole numbers."""
    places = [corners[number] for number in lot]
    return sum([ax * by - ay * bx for (ax, ay), (bx, by) in couples_round(places)])


def least_lot(even, rows):
    """The least twice area of the hull of an even lot, and such a lot."""
    # Whole numbers, as the areas of all lots are compared.
    whole_rows, bottom = whole_corners([even])
    area, lot = min([(lot_area(whole_rows[0], lot), lot) for lot in even_lots(len(even), rows)])
    return (lowest_terms(area, bottom * bottom), lot)


def least_even_area(readings):
    """The least twice area of an even patch that fits the readings."""
    readings = check_readings(readings)
    even = full_even_whole(readings)
    twice, kept = least_lot(even, rim_corners(even, readings))
    return LeastEven(twice, kept)


def is_even_lot(kept, many, rows):
    """Whether this is an even lot, as a list or a tuple, of an even patch of so many corners."""
    if not is_row(kept) or not all([is_whole(number, 0, many - 1) for number in kept]) or not is_ascending(kept):
        return False
    half = (many + 1) // 2
    return has_all(kept, with_opposites(many, [number % half for number in kept])) and has_each(kept, rows)


def least_even_fault(readings, least):
    """The first thing that is wrong with a LeastEven, or None."""
    readings = check_readings(readings)
    even = full_even_whole(readings)
    rows = rim_corners(even, readings)
    if not is_even_lot(least.kept, len(even), rows):
        return "kept"
    whole_rows, bottom = whole_corners([even])
    if not is_ratio(least.twice) or least.twice != lowest_terms(lot_area(whole_rows[0], least.kept), bottom * bottom):
        return "twice"
    return "less" if least.twice != least_lot(even, rows)[0] else None
