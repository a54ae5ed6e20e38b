"""As few halves as show which places are sure, and stones that have no place in common where none is."""

from feltstone.critical import floors_of, high_corner, part_above
from feltstone.fitting import check_case, full_lot, misfit
from feltstone.patches import Patch, box_of, common_of, halves_of, hull_of, low_of
from feltstone.places import AXES, amount_at, is_direction, opposite, order_round, turn_of
from feltstone.ratios import compare, is_ratio, is_row, negative, plus
from feltstone.rounds import Parting, part_lots, turning_fault
from feltstone.sure import farthest_stone, sure_places


class Side:
    """A stone that fits and has no place below the amount along the direction."""

    def __init__(self, direction, amount, stone):
        self.direction = direction
        self.amount = amount
        self.stone = stone

    def __eq__(self, other):
        return (
            isinstance(other, Side) and self.direction == other.direction
            and self.amount == other.amount and self.stone == other.stone
        )


def ways_at(floors, place):
    """The directions of the floors on which a place lies, in round order."""
    return order_round([way for way, amount in floors if amount_at(way, place) == amount])


def ways_round_place(floors, place):
    """As few directions of floors as have just the place above them, where all floors have."""
    ways = ways_at(floors, place)
    kept = list(ways)
    for way in ways:
        rest = [one for one in kept if one != way]
        if turning_fault(rest) is None:
            kept = rest
    return kept


def ways_round_stretch(floors, stretch):
    """The four directions of floors that have just the stretch above them, where all floors have."""
    one, other = stretch.corners
    along = [way for way in ways_at(floors, one) if amount_at(way, one) == amount_at(way, other)]
    ends = [[way for way in ways_at(floors, end) if way not in along] for end in (one, other)]
    return [*along, *[ways[0] for ways in ends]]


def amounts_on_axes(floors):
    """The amounts of the floors along the axes, in their order."""
    amounts = {way: amount for way, amount in floors}
    return [amounts[way] for way in AXES]


def axes_apart(floors):
    """Two opposite axes whose floors have no place above both, or nothing."""
    left, low, right, high = amounts_on_axes(floors)
    if plus(left, right)[0] > 0:
        return [AXES[0], AXES[2]]
    if plus(low, high)[0] > 0:
        return [AXES[1], AXES[3]]
    return []


def box_above(floors):
    """The patch of all places above the floors along the axes, where there are such places."""
    left, low, right, high = amounts_on_axes(floors)
    return box_of((left, negative(right)), (low, negative(high)))


def farthest_turned(way, ways, sign):
    """Of the directions less than a half turn to the left of one (sign 1) or to its right (-1), the farthest."""
    farthest = way
    for one in ways:
        if turn_of(way, one) == sign and turn_of(farthest, one) == sign:
            farthest = one
    return farthest


def ways_apart(floors):
    """Two or three directions of floors that have no place above all of them, where all floors have none."""
    ways = axes_apart(floors)
    if ways:
        return ways
    part = box_above(floors)
    for floor in floors:
        left = part_above(part, [floor])
        if left is None:
            return ways_against(floors, floor[0], high_corner(part, floor[0]))
        part = left
    return []


def ways_against(floors, way, place):
    """The direction of a floor, and of one or two on which a place below it lies that keep all others below, too."""
    ways = ways_at(floors, place)
    if opposite(way) in ways:
        return [way, opposite(way)]
    return [way, farthest_turned(way, ways, 1), farthest_turned(way, ways, -1)]


def side_ways(case):
    """The directions of the sides that sure_sides tells."""
    floors = floors_of((full_lot(case),))
    sure = part_above(case.whole, floors)
    if sure is None:
        return ways_apart(floors)
    if len(sure) == 1:
        return ways_round_place(floors, sure.corners[0])
    if len(sure) == 2:
        return ways_round_stretch(floors, sure)
    return [opposite(normal) for normal, _ in halves_of(sure)]


def side_along(case, direction):
    """The side of a case along a direction."""
    far = farthest_stone(case, direction)
    return Side(direction, far.amount, far.stone)


def sure_sides(case):
    """Sides, in round order, that have just the sure places at or above all their amounts, none needless."""
    check_case(case)
    return tuple([side_along(case, way) for way in order_round(side_ways(case))])


def is_side(thing):
    """Whether this is a Side with a direction, a ratio and a patch."""
    if not isinstance(thing, Side):
        return False
    return is_direction(thing.direction) and is_ratio(thing.amount) and isinstance(thing.stone, Patch)


def greatest_figure(numbers):
    """The greatest of some whole numbers without their signs, 0 if there are none."""
    return max([abs(number) for number in numbers], default=0)


def square_round(floors, ground):
    """A square round a patch that has a place above all floors if there is such a place anywhere.

    If there is one, there is one where two lines of floors cross, or on a single line next to (0, 0). By the rule for
    two equations no coordinate of it is beyond twice the greatest figure of a direction times the greatest amount.
    """
    figure = greatest_figure([number for way, _ in floors for number in way])
    amount = greatest_figure([top for _, (top, _) in floors])
    edge = greatest_figure([top for place in ground.corners for top, _ in place])
    far = 2 * figure * amount + edge + 1
    ends = ((-far, 1), (far, 1))
    return box_of(ends, ends)


def has_needless(floors, square, sure):
    """Whether some floor can be left out of those that have just the sure places above them.

    A polygon needs just one for each side. Of others any four, where there are more, are enough if well chosen.
    """
    if sure is not None and len(sure) > 2:
        return len(floors) > len(sure)
    if len(floors) > 4:
        return True
    rests = [floors[:k] + floors[k + 1:] for k in range(len(floors))]
    return any([part_above(square, rest) == sure for rest in rests])


def sides_fault(case, told):
    """The first thing that is wrong with sides of a case, told in any order, or None."""
    sure = sure_places(case)
    if not is_row(told):
        return "sides"
    if not all([is_side(side) for side in told]):
        return "side"
    if any([misfit(case, side.stone) is not None for side in told]):
        return "fits"
    if any([compare(low_of(side.stone, side.direction), side.amount) < 0 for side in told]):
        return "above"
    floors = [(side.direction, side.amount) for side in told]
    square = square_round(floors, case.table.ground)
    if part_above(square, floors) != sure:
        return "places"
    return "needless" if has_needless(floors, square, sure) else None


def stones_apart(case):
    """None if some place is sure, else two stones that fit without a common place, or three if no two are such."""
    lot = full_lot(case)
    if sure_places(case) is not None:
        return None
    told = part_lots(lot, lot)
    if isinstance(told, Parting):
        return (hull_of(told.ones), hull_of(told.twos))
    return tuple([side.stone for side in sure_sides(case)])


def are_stones(told):
    """Whether this is a sequence of two or three patches."""
    return is_row(told) and len(told) in (2, 3) and all([isinstance(stone, Patch) for stone in told])


def apart_fault(case, told):
    """The first thing that is wrong with stones that have no common place, or with None, or None."""
    lot = full_lot(case)
    if told is None:
        return "none" if sure_places(case) is None else None
    if not are_stones(told):
        return "stones"
    if any([misfit(case, stone) is not None for stone in told]):
        return "fits"
    if common_of(told) is not None:
        return "common"
    return "two" if len(told) == 3 and isinstance(part_lots(lot, lot), Parting) else None
