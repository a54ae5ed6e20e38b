"""Stones that stand in line along a direction, each one's reach at or below the low end of the next one."""

from feltstone.cases import Case
from feltstone.critical import greatest_low, least_reach
from feltstone.errors import BadLine
from feltstone.fitting import full_lot, is_stone
from feltstone.patches import Patch, cut_patch, low_of, reach_of
from feltstone.places import check_direction
from feltstone.ratios import compare, greatest_of, is_row, is_whole
from feltstone.reaches import part_between

LEAST_CASES = 2
MOST_CASES = 4


class LinedUp:
    """The result where stones can stand in line: one that fits each case."""

    def __init__(self, stones):
        self.stones = stones

    def __eq__(self, other):
        return isinstance(other, LinedUp) and self.stones == other.stones


class Blocked:
    """The result where none can: the indices of the first two cases of which no stones can stand in line."""

    def __init__(self, first, second):
        self.first = first
        self.second = second

    def __eq__(self, other):
        return isinstance(other, Blocked) and self.first == other.first and self.second == other.second


def check_line(cases):
    """Raise BadLine unless this is a sequence of two to four cases."""
    if not is_row(cases) or not LEAST_CASES <= len(cases) <= MOST_CASES:
        raise BadLine()
    if not all([isinstance(case, Case) for case in cases]):
        raise BadLine()


def ends_along(cases, direction):
    """For each case the least reach and the greatest low end of a stone that fits."""
    check_line(cases)
    direction = check_direction(direction)
    lots = [full_lot(case) for case in cases]
    return [(least_reach(lot, direction), greatest_low(lot, direction)) for lot in lots]


def may_precede(one, other):
    """Whether of two cases, told by their ends, some stone of the first reaches no farther than one of the second."""
    return compare(one[0], other[1]) <= 0


def first_blocked(ends):
    """The indices of the first two cases, told by their ends, that keep all from standing in line, or None."""
    for first in range(len(ends)):
        for second in range(first + 1, len(ends)):
            if not may_precede(ends[first], ends[second]):
                return (first, second)
    return None


def are_in_line(one, other, direction):
    """Whether a patch reaches at most to the low end of another one."""
    return compare(reach_of(one, direction), low_of(other, direction)) <= 0


def all_in_line(patches, direction):
    """Whether each patch but the last stands in line with the next one."""
    return all([are_in_line(one, other, direction) for one, other in zip(patches, patches[1:])])


def line_verdict(cases, direction):
    """Whether all stones of the cases stand in line, none, or some."""
    if first_blocked(ends_along(cases, direction)) is not None:
        return "never"
    return "always" if all_in_line([case.whole for case in cases], direction) else "maybe"


def stones_in_line(cases, direction, ends):
    """Stones in line: each is what the whole has between the farthest that it and those before it must reach."""
    reach = ends[0][0]
    stones = [cut_patch(cases[0].whole, direction, reach)]
    for case, (least, _) in zip(cases[1:], ends[1:]):
        low, reach = reach, greatest_of((reach, least))
        stones.append(part_between(case.whole, direction, low, reach))
    return tuple(stones)


def line_up(cases, direction):
    """Stones that stand in line, or the first two cases that keep all from it."""
    ends = ends_along(cases, direction)
    blocked = first_blocked(ends)
    if blocked is not None:
        return Blocked(blocked[0], blocked[1])
    return LinedUp(stones_in_line(cases, direction, ends))


def lined_fault(cases, direction, stones):
    """The first thing that is wrong with the stones of a LinedUp, or None."""
    if not is_row(stones) or len(stones) != len(cases) or not all([isinstance(stone, Patch) for stone in stones]):
        return "stones"
    if not all([is_stone(case, stone) for case, stone in zip(cases, stones)]):
        return "fit"
    return None if all_in_line(stones, direction) else "line"


def blocked_fault(blocked, told):
    """The first thing that is wrong with a Blocked where these two indices are right, or None."""
    if blocked is None or not is_whole(told.first) or told.first != blocked[0]:
        return "first"
    return None if is_whole(told.second) and told.second == blocked[1] else "second"


def line_fault(cases, direction, told):
    """The first thing that is wrong with what is told of cases along a direction, or None."""
    blocked = first_blocked(ends_along(cases, direction))
    if isinstance(told, LinedUp):
        return lined_fault(cases, direction, told.stones)
    return blocked_fault(blocked, told) if isinstance(told, Blocked) else "kind"


def orders_along(cases, direction):
    """All orders of the cases, ascending, in which they can stand in line."""
    ends = ends_along(cases, direction)
    indices = list(range(len(ends)))
    orders = [()]
    for _ in indices:
        orders = [
            (*order, index)
            for order in orders
            for index in indices
            if index not in order and all([may_precede(ends[before], ends[index]) for before in order])
        ]
    return tuple(orders)
