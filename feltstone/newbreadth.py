"""What calipers tell of further breadths and of the span, and which readings say the same."""

from feltstone.calipers import check_readings, full_even_whole, rims_of
from feltstone.evens import opposite_patch, sum_patches
from feltstone.patches import breadth_of, hull_of, low_of, reach_of
from feltstone.places import check_amount, check_direction, grow_place, nearest_share, place_on, square_of, step_from
from feltstone.ratios import HALF, ZERO, compare, greatest_of, negative, times
from feltstone.reaches import check_met, part_between

TWO = (2, 1)
FOUR = (4, 1)
LEAST_TO_FOLLOW_FROM = 2


class Differing:
    """An even patch that fits one of two rows of readings alone: `which` is 0 for the first row, 1 for the second."""

    def __init__(self, which, stone):
        self.which = which
        self.stone = stone

    def __eq__(self, other):
        return isinstance(other, Differing) and self.which == other.which and self.stone == other.stone


def least_off(patch, direction):
    """The least amount of a place of a patch, told without its sign."""
    return greatest_of((ZERO, low_of(patch, direction), negative(reach_of(patch, direction))))


def breadths_let(readings, even, direction):
    """The least and the greatest breadth of a patch that fits the readings with this even whole."""
    least = greatest_of([least_off(rim, direction) for rim in rims_of(even, readings)])
    return (times(TWO, least), breadth_of(even, direction))


def new_breadth(readings, direction):
    """The least and the greatest breadth along a direction of a patch that fits the readings."""
    readings = check_readings(readings)
    direction = check_direction(direction)
    return breadths_let(readings, full_even_whole(readings), direction)


def part_of_breadth(even, direction, breadth):
    """The part of an even patch that is not beyond half a breadth along a direction, on either side."""
    amount = times(breadth, HALF)
    return part_between(even, direction, negative(amount), amount)


def stone_of_new_breadth(readings, direction, breadth):
    """An even patch that fits the readings and has this breadth along the direction."""
    readings = check_readings(readings)
    direction = check_direction(direction)
    breadth = check_amount(breadth)
    even = full_even_whole(readings)
    check_met(breadth, breadths_let(readings, even, direction))
    return part_of_breadth(even, direction, breadth)


def greatest_square(places):
    """The greatest square of the distance of a place from (0, 0)."""
    return greatest_of([square_of(place) for place in places])


def span_of(patch):
    """The square of the greatest distance of two places of a patch."""
    return greatest_square(sum_patches(patch, opposite_patch(patch)).corners)


def nearest_to_middle(rim):
    """The place of a rim, a corner or a stretch, that is nearest to (0, 0)."""
    if len(rim) == 1:
        return rim.corners[0]
    one, other = rim.corners
    return place_on(one, other, nearest_share(one, step_from(one, other)))


def nearest_on_rims(readings, even):
    """For each reading the place of its rim that is nearest to (0, 0)."""
    return [nearest_to_middle(rim) for rim in rims_of(even, readings)]


def span_range(readings):
    """The least and the greatest square of the span of a patch that fits the readings."""
    readings = check_readings(readings)
    even = full_even_whole(readings)
    least = greatest_square(nearest_on_rims(readings, even))
    return (times(FOUR, least), times(FOUR, greatest_square(even.corners)))


def least_span_stone(readings):
    """An even patch that fits the readings and has the least span."""
    readings = check_readings(readings)
    places = nearest_on_rims(readings, full_even_whole(readings))
    return hull_of([*places, *[grow_place(place, (-1, 1)) for place in places]])


def needless_readings(readings):
    """The indices of the readings each of which follows from all others, where there are two others or more."""
    readings = check_readings(readings)
    full_even_whole(readings)
    if len(readings) <= LEAST_TO_FOLLOW_FROM:
        return ()
    needless = []
    for index, (direction, _) in enumerate(readings):
        # Some patch fits all readings, so where the others let one breadth alone, it is this reading's.
        least, greatest = new_breadth(readings[:index] + readings[index + 1:], direction)
        if least == greatest:
            needless.append(index)
    return tuple(needless)


def stone_of_first_alone(readings, others):
    """An even patch that fits the readings and not the others, or None; some patch fits the readings."""
    even = full_even_whole(readings)
    for direction, breadth in others:
        for end in breadths_let(readings, even, direction):
            if compare(end, breadth) != 0:
                return part_of_breadth(even, direction, end)
    return None


def alike_calipers(readings, others):
    """None if the same patches fit two rows of readings, else an even patch that fits one alone: the first, if any."""
    readings, others = check_readings(readings), check_readings(others)
    full_even_whole(readings)
    full_even_whole(others)
    for which, (ones, twos) in enumerate(((readings, others), (others, readings))):
        stone = stone_of_first_alone(ones, twos)
        if stone is not None:
            return Differing(which, stone)
    return None
