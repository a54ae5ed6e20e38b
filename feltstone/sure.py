"""The places that surely belong to the stone."""

from feltstone.critical import floors_of, greatest_low, high_places, part_above
from feltstone.fitting import check_case, full_lot, misfit, numbers_of
from feltstone.patches import Patch, hull_of, reach_of
from feltstone.places import amount_at, check_direction, check_place, is_direction
from feltstone.ratios import compare, is_number_in, is_row
from feltstone.rounds import Round, are_entries, part_lots, round_fault


class Sure:
    """The result for a sure place: entries (direction, number of a patch) that go round once."""

    def __init__(self, entries):
        self.entries = entries

    def __eq__(self, other):
        return isinstance(other, Sure) and self.entries == other.entries

    def __len__(self):
        return len(self.entries)

    def __iter__(self):
        return iter(self.entries)


class Missed:
    """The result for a place that is not sure: a stone that fits and is below the place along the direction."""

    def __init__(self, direction, stone):
        self.direction = direction
        self.stone = stone

    def __eq__(self, other):
        return isinstance(other, Missed) and self.direction == other.direction and self.stone == other.stone


class Far:
    """The greatest least amount of a stone that fits, and such a stone."""

    def __init__(self, amount, stone):
        self.amount = amount
        self.stone = stone

    def __eq__(self, other):
        return isinstance(other, Far) and self.amount == other.amount and self.stone == other.stone


def sure_of(case, place):
    """A Sure if the place lies in all stones that fit, else a Missed."""
    place = check_place(place)
    told = part_lots(full_lot(case), (Patch((place,)),))
    if not isinstance(told, Round):
        return Missed(told.direction, hull_of(told.ones))
    numbers = numbers_of(case)
    return Sure(tuple([(direction, numbers[index]) for direction, index, _ in told.entries]))


def is_sure(case, place):
    """Whether the place lies in all stones that fit."""
    return isinstance(sure_of(case, place), Sure)


def verdict_of(case, place):
    """Whether the place lies in all stones that fit, in some, or in none."""
    if is_sure(case, place):
        return "always"
    return "maybe" if place in case.whole else "never"


def is_sure_entry(entry, numbers):
    """Whether this is a sequence of a direction and one of the numbers."""
    if not is_row(entry) or len(entry) != 2:
        return False
    return is_direction(entry[0]) and is_number_in(entry[1], numbers)


def sure_fault(case, place, told):
    """The first thing that is wrong with a Sure of a place, or None."""
    place = check_place(place)
    patches, numbers = full_lot(case), numbers_of(case)
    if not are_entries(told.entries):
        return "entries"
    if not all([is_sure_entry(entry, numbers) for entry in told.entries]):
        return "entry"
    entries = [(direction, numbers.index(number), 0) for direction, number in told.entries]
    return round_fault(patches, (Patch((place,)),), Round(entries))


def missed_fault(case, place, told):
    """The first thing that is wrong with a Missed of a place, or None."""
    place = check_place(place)
    check_case(case)
    if not is_direction(told.direction):
        return "direction"
    if not isinstance(told.stone, Patch):
        return "stone"
    if misfit(case, told.stone) is not None:
        return "fits"
    if compare(reach_of(told.stone, told.direction), amount_at(told.direction, place)) >= 0:
        return "below"
    return None


def farthest_stone(case, direction):
    """A stone that fits whose least amount is the greatest, and that amount."""
    direction = check_direction(direction)
    patches = full_lot(case)
    return Far(greatest_low(patches, direction), hull_of(high_places(patches, direction)))


def sure_places(case):
    """The patch of all sure places, or None."""
    return part_above(case.whole, floors_of((full_lot(case),)))
