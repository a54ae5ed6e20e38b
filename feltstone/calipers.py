"""Calipers: breadths of a stone of which nobody knows where it lies, and the even whole of them."""

from feltstone.errors import BadReading, NoStones
from feltstone.lots import lots_among
from feltstone.patches import breadth_of, hull_of, part_in_halves, touched_by
from feltstone.places import check_direction, is_direction, opposite, turn_of
from feltstone.ratios import HALF, compare, is_from_zero, is_row, lowest_terms, negative, plus, times

LEAST_READINGS = 2
MOST_READINGS = 8


class Uneven:
    """The result for readings that no patch fits: their first quarrel."""

    def __init__(self, quarrel):
        self.quarrel = quarrel

    def __eq__(self, other):
        return isinstance(other, Uneven) and self.quarrel == other.quarrel


def check_many(row):
    """Raise BadReading unless this is a sequence of as many entries as readings are."""
    if not is_row(row) or not LEAST_READINGS <= len(row) <= MOST_READINGS:
        raise BadReading(0, "many")


def check_line(index, direction, earlier):
    """The direction of a reading as a tuple; none of the earlier ones may be along its line."""
    if not is_direction(direction):
        raise BadReading(index, "direction")
    if any([turn_of(one, direction) == 0 for one in earlier]):
        raise BadReading(index, "twice")
    return check_direction(direction)


def check_readings(readings):
    """The readings as a tuple of tuples."""
    check_many(readings)
    checked = []
    for index, reading in enumerate(readings):
        if not is_row(reading) or len(reading) != 2:
            raise BadReading(index, "direction")
        direction = check_line(index, reading[0], [way for way, _ in checked])
        if not is_from_zero(reading[1]):
            raise BadReading(index, "breadth")
        checked.append((direction, reading[1]))
    return tuple(checked)


def readings_of(stone, directions):
    """The readings that a patch has along some directions."""
    check_many(directions)
    checked = []
    for index, direction in enumerate(directions):
        checked.append(check_line(index, direction, checked))
    return tuple([(direction, breadth_of(stone, direction)) for direction in checked])


def caliper_misfit(readings, stone):
    """None if a patch fits the readings, else the index of the first one that it does not fit."""
    for index, (direction, breadth) in enumerate(check_readings(readings)):
        if breadth_of(stone, direction) != breadth:
            return index
    return None


def cross_size(one, other):
    """The cross product of two directions without its sign."""
    return abs(one[0] * other[1] - one[1] * other[0])


def is_too_broad(first, second, third):
    """Whether the third of three readings is broader than both others let it be."""
    (one, breadth), (two, other), (three, told) = first, second, third
    let = plus(times(breadth, (cross_size(two, three), 1)), times(other, (cross_size(one, three), 1)))
    return compare(times(told, (cross_size(one, two), 1)), let) > 0


def do_quarrel(first, second, third):
    """Whether no patch fits three readings."""
    turns = ((first, second, third), (second, third, first), (third, first, second))
    return any([is_too_broad(one, two, three) for one, two, three in turns])


def caliper_quarrels(readings):
    """All quarrels of three readings, ascending."""
    readings = check_readings(readings)
    lots = [lot for lot in lots_among(list(range(len(readings))), 3) if len(lot) == 3]
    return tuple([(i, j, k) for i, j, k in lots if do_quarrel(readings[i], readings[j], readings[k])])


def place_of_amounts(one, amount, two, other):
    """The place that has an amount along a direction and another amount along another direction."""
    (a, b), (c, d) = one, two
    turn = a * d - b * c
    x = plus(times(amount, lowest_terms(d, turn)), times(other, lowest_terms(-b, turn)))
    y = plus(times(amount, lowest_terms(-c, turn)), times(other, lowest_terms(a, turn)))
    return (x, y)


def strip_of(reading):
    """The halves of the strip with the breadth of a reading round (0, 0)."""
    direction, breadth = reading
    amount = times(breadth, HALF)
    return [(direction, amount), (opposite(direction), amount)]


def crossing_of(first, second):
    """The patch of all places that lie in the strips of two readings."""
    (one, amount), (two, other) = strip_of(first)[0], strip_of(second)[0]
    ends = [(a, b) for a in (amount, negative(amount)) for b in (other, negative(other))]
    return hull_of([place_of_amounts(one, a, two, b) for a, b in ends])


def even_whole(readings):
    """The patch of all places that lie in the strips of all readings, or the first quarrel of the readings."""
    readings = check_readings(readings)
    quarrels = caliper_quarrels(readings)
    if quarrels:
        return Uneven(quarrels[0])
    halves = [half for reading in readings[2:] for half in strip_of(reading)]
    return part_in_halves(crossing_of(readings[0], readings[1]), halves)


def full_even_whole(readings):
    """The even whole of readings, if some patch fits them."""
    even = even_whole(readings)
    if isinstance(even, Uneven):
        raise NoStones()
    return even


def rims_of(even, readings):
    """For each reading its rim: the patch of the places of the even whole that are farthest along its direction."""
    return [touched_by(even, direction) for direction, _ in readings]
