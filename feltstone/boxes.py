"""Boxes that are never turned: whether they hold the stones that fit, at one place or anywhere."""

from feltstone.errors import BadBox
from feltstone.evens import sum_patches
from feltstone.facts import have_common
from feltstone.fitting import check_case, full_lot, is_stone, numbers_of
from feltstone.lots import lots_among
from feltstone.patches import box_of, common_of, common_patch, halves_of, lies_in, low_of, part_in_halves, reach_of
from feltstone.places import AXES, check_place, is_place
from feltstone.ratios import ZERO, compare, is_from_zero, is_row, is_whole, minus, negative, plus


class HoldsAll:
    """The result for a box that holds every stone at one low corner."""

    def __init__(self, low):
        self.low = low

    def __eq__(self, other):
        return isinstance(other, HoldsAll) and self.low == other.low


class HoldsSome:
    """The result for a box that holds some stones, with one of them."""

    def __init__(self, low, stone):
        self.low = low
        self.stone = stone

    def __eq__(self, other):
        return isinstance(other, HoldsSome) and self.low == other.low and self.stone == other.stone


class HoldsNone:
    """The result for a box that holds no stone: the numbers of patches that no such box meets all."""

    def __init__(self, numbers):
        self.numbers = numbers

    def __eq__(self, other):
        return isinstance(other, HoldsNone) and self.numbers == other.numbers


def check_box(width, height):
    """Raise BadBox unless the width and the height are ratios from 0 on."""
    if not is_from_zero(width):
        raise BadBox("width")
    if not is_from_zero(height):
        raise BadBox("height")


def box_at(low, width, height):
    """The patch of a box with this low corner."""
    x, y = low
    return box_of((x, plus(x, width)), (y, plus(y, height)))


def held_at(case, low, width, height):
    """Whether a box at this low corner holds every stone that fits, none, or some."""
    low = check_place(low)
    check_box(width, height)
    lot, box = full_lot(case), box_at(low, width, height)
    if lies_in(lot[0], box):
        return "always"
    return "maybe" if all([have_common(patch, box) for patch in lot]) else "never"


def low_corners_at(patch, width, height):
    """The patch of all low corners with which a box has a place of a patch."""
    return sum_patches(patch, box_of((negative(width), ZERO), (negative(height), ZERO)))


def some_box_places(case, width, height):
    """The patch of all low corners with which the box holds some stone that fits, or None."""
    check_box(width, height)
    return common_of([low_corners_at(patch, width, height) for patch in full_lot(case)])


def low_ends(patch, way, length):
    """The first and the last amount from which on a length holds all amounts of a patch, or None."""
    first, last = minus(reach_of(patch, way), length), low_of(patch, way)
    return None if compare(first, last) > 0 else (first, last)


def every_box_places(case, width, height):
    """The patch of all low corners with which the box holds every stone that fits, or None."""
    check_box(width, height)
    whole = check_case(case).whole
    xs, ys = low_ends(whole, AXES[0], width), low_ends(whole, AXES[1], height)
    return None if xs is None or ys is None else box_of(xs, ys)


def first_apart(case, width, height):
    """The first lot of two or three numbers of patches such that no box has a place of each, where there is one."""
    # The low corners for the whole have those for all other patches in them, so the whole never is in the first lot.
    numbers = numbers_of(case)[1:]
    places = [low_corners_at(patch, width, height) for patch in full_lot(case)[1:]]
    halves, commons = [halves_of(patch) for patch in places], {}
    for lot in lots_among(list(range(len(numbers))), 3):
        if len(lot) > 1:
            first = places[lot[0]] if len(lot) == 2 else commons[lot[:-1]]
            commons[lot] = part_in_halves(first, halves[lot[-1]])
            if commons[lot] is None:
                return tuple([numbers[index] for index in lot])
    return None


def box_verdict(case, width, height):
    """Whether a box that may be put anywhere holds every stone that fits, some, or none, with what shows it."""
    every = every_box_places(case, width, height)
    if every is not None:
        return HoldsAll(every.corners[0])
    some = some_box_places(case, width, height)
    if some is None:
        return HoldsNone(first_apart(case, width, height))
    low = some.corners[0]
    return HoldsSome(low, common_patch(case.whole, box_at(low, width, height)))


def all_fault(case, width, height, told):
    """The first thing that is wrong with a HoldsAll where some box holds every stone, or None."""
    if not is_place(told.low) or not lies_in(case.whole, box_at(told.low, width, height)):
        return "low"
    return None


def some_fault(case, width, height, told):
    """The first thing that is wrong with a HoldsSome where some box holds some stones, but none all, or None."""
    if not is_place(told.low):
        return "low"
    if not is_stone(case, told.stone) or not lies_in(told.stone, box_at(told.low, width, height)):
        return "stone"
    return None


def none_fault(told, numbers):
    """The word for a HoldsNone that has not just these numbers, or None."""
    if not is_row(told.numbers) or not all([is_whole(number) for number in told.numbers]):
        return "numbers"
    return None if tuple(told.numbers) == numbers else "numbers"


def box_fault(case, width, height, told):
    """The first thing that is wrong with what is told of a box that may be put anywhere, or None."""
    right = box_verdict(case, width, height)
    if isinstance(told, HoldsAll) and isinstance(right, HoldsAll):
        return all_fault(case, width, height, told)
    if isinstance(told, HoldsSome) and isinstance(right, HoldsSome):
        return some_fault(case, width, height, told)
    if isinstance(told, HoldsNone) and isinstance(right, HoldsNone):
        return none_fault(told, right.numbers)
    return "verdict"
