"""The places that surely belong to the stone."""

from feltstone.critical import greatest_low, high_corner, high_places
from feltstone.fitting import check_case, full_patches, misfit
from feltstone.patches import Patch, hull_of, low_of, part_in_halves, reach_of
from feltstone.places import AXES, amount_at, check_direction, check_place, is_direction, opposite, order_round
from feltstone.places import side_normal, turn_of
from feltstone.ratios import compare, is_row, is_whole, negative
from feltstone.rounds import Round, are_entries, couples_round, part_lots, round_fault


class Sure:
    """The result for a sure place: entries (direction, number of a patch) that go round once."""

    def __init__(self, entries):
        self.entries = entries

    def __eq__(self, other):
        return isinstance(other, Sure) and self.entries == other.entries

    def __len__(self):
        return len(self.entries)

    def __iter__(self):
        return iter(self.entries)


class Missed:
    """The result for a place that is not sure: a stone that fits and is below the place along the direction."""

    def __init__(self, direction, stone):
        self.direction = direction
        self.stone = stone

    def __eq__(self, other):
        return isinstance(other, Missed) and self.direction == other.direction and self.stone == other.stone


class Far:
    """The greatest least amount of a stone that fits, and such a stone."""

    def __init__(self, amount, stone):
        self.amount = amount
        self.stone = stone

    def __eq__(self, other):
        return isinstance(other, Far) and self.amount == other.amount and self.stone == other.stone


def full_lot(case):
    """The patches of a case as a lot, if each has a place."""
    return [patch for _, patch in full_patches(case)]


def numbers_of(case):
    """The numbers of the patches of a case."""
    return [number for number, _ in case.patches]


def sure_of(case, place):
    """A Sure if the place lies in all stones that fit, else a Missed."""
    place = check_place(place)
    told = part_lots(full_lot(case), (Patch((place,)),))
    if not isinstance(told, Round):
        return Missed(told.direction, hull_of(told.ones))
    numbers = numbers_of(case)
    return Sure(tuple([(direction, numbers[index]) for direction, index, _ in told.entries]))


def is_sure(case, place):
    """Whether the place lies in all stones that fit."""
    return isinstance(sure_of(case, place), Sure)


def verdict_of(case, place):
    """Whether the place lies in all stones that fit, in some, or in none."""
    if is_sure(case, place):
        return "always"
    return "maybe" if place in case.whole else "never"


def is_sure_entry(entry, numbers):
    """Whether this is a sequence of a direction and one of the numbers."""
    if not is_row(entry) or len(entry) != 2:
        return False
    return is_direction(entry[0]) and is_whole(entry[1]) and entry[1] in numbers


def sure_fault(case, place, told):
    """The first thing that is wrong with a Sure of a place, or None."""
    place = check_place(place)
    patches, numbers = full_lot(case), numbers_of(case)
    if not are_entries(told.entries):
        return "entries"
    if not all([is_sure_entry(entry, numbers) for entry in told.entries]):
        return "entry"
    entries = [(direction, numbers.index(number), 0) for direction, number in told.entries]
    return round_fault(patches, (Patch((place,)),), Round(entries))


def missed_fault(case, place, told):
    """The first thing that is wrong with a Missed of a place, or None."""
    place = check_place(place)
    check_case(case)
    if not is_direction(told.direction):
        return "direction"
    if not isinstance(told.stone, Patch):
        return "stone"
    if misfit(case, told.stone) is not None:
        return "fits"
    if compare(reach_of(told.stone, told.direction), amount_at(told.direction, place)) >= 0:
        return "below"
    return None


def farthest_stone(case, direction):
    """A stone that fits whose least amount is the greatest, and that amount."""
    direction = check_direction(direction)
    patches = full_lot(case)
    return Far(greatest_low(patches, direction), hull_of(high_places(patches, direction)))


def turns_of(patch):
    """Each direction at which the farthest corner of a patch changes, with the one that is farthest to its left."""
    if len(patch) == 1:
        return {}
    return {side_normal(one, other): other for one, other in couples_round(patch.corners)}


def farthest_corners(patch, directions):
    """For each of some directions in round order the corner that is farthest from there on to the next one.

    All directions at which it changes are among them, so two corners are farthest only where the turns tell which.
    """
    turns = turns_of(patch)
    corner = high_corner(patch, directions[0])
    corners = []
    for direction in directions:
        corner = turns.get(direction, corner)
        corners.append(corner)
    return corners


def turns_between(patch, direction, following):
    """The directions strictly between two others at which the lowest corner of a patch changes."""
    ways = [opposite(way) for way in turns_of(patch)]
    return [way for way in ways if turn_of(direction, way) > 0 and turn_of(way, following) > 0]


def sure_halves(patches):
    """Halves that have just the sure places in common.

    Between neighbours of these directions each patch has one farthest corner. So greatest_low is there the least
    amount of the hull of those corners, and a half with it turns about one of them unless a side of the hull lies
    along its end: the halves along the neighbours and the normals of such sides shut out what all shut out.
    """
    directions = order_round([*AXES, *[way for patch in patches for way in turns_of(patch)]])
    rows = [farthest_corners(patch, directions) for patch in patches]
    halves = []
    for index, (direction, following) in enumerate(couples_round(directions)):
        hull = hull_of([row[index] for row in rows])
        for way in [direction, *turns_between(hull, direction, following)]:
            halves.append((opposite(way), negative(low_of(hull, way))))
    return halves


def sure_places(case):
    """The patch of all sure places, or None."""
    return part_in_halves(case.whole, sure_halves(full_lot(case)))
