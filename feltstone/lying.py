"""Whether the first stone of a pair lies in the second one: in every pair, in some, or in none."""

from feltstone.fitting import check_case, full_patches, is_stone, numbers_of
from feltstone.meeting import direction_apart, never_fault
from feltstone.patches import common_patch, lies_in
from feltstone.ratios import is_number_in, is_row
from feltstone.sure import Missed, Sure, sure_fault, sure_of


class SurelyIn:
    """The result where the first stone lies in the second in every pair: the entries of a Sure for each corner."""

    def __init__(self, rounds):
        self.rounds = rounds

    def __eq__(self, other):
        return isinstance(other, SurelyIn) and self.rounds == other.rounds


class NeverIn:
    """The result where it does so in no pair: along the direction the patch of the number is below the other whole."""

    def __init__(self, number, direction):
        self.number = number
        self.direction = direction

    def __eq__(self, other):
        return isinstance(other, NeverIn) and self.number == other.number and self.direction == other.direction


class MayIn:
    """The result where it does so in some pairs: a first stone in the other whole, a second without the first whole."""

    def __init__(self, inner, avoider):
        self.inner = inner
        self.avoider = avoider

    def __eq__(self, other):
        return isinstance(other, MayIn) and self.inner == other.inner and self.avoider == other.avoider


def lying_in(case, other):
    """Whether the first stone lies in the second one in every pair, in some, or in none, with what shows it."""
    patches = full_patches(case)
    check_case(other)
    for number, patch in patches:
        if common_patch(patch, other.whole) is None:
            return NeverIn(number, direction_apart(patch, other.whole))
    rounds = []
    for corner in case.whole.corners:
        told = sure_of(other, corner)
        if isinstance(told, Missed):
            return MayIn(common_patch(case.whole, other.whole), told.stone)
        rounds.append(told.entries)
    return SurelyIn(tuple(rounds))


def rounds_fault(case, other, rounds):
    """The first thing that is wrong with the rounds of a SurelyIn, or None."""
    if not is_row(rounds) or len(rounds) != len(case.whole):
        return "rounds"
    for corner, entries in zip(case.whole.corners, rounds):
        fault = sure_fault(other, corner, Sure(entries))
        if fault is not None:
            return fault
    return None


def never_in_fault(case, other, told):
    """The first thing that is wrong with a NeverIn, or None."""
    if not is_number_in(told.number, numbers_of(case)):
        return "number"
    return never_fault(case.patch_at(told.number), other.whole, told.direction)


def may_in_fault(case, other, told):
    """The first thing that is wrong with a MayIn, or None."""
    if not is_stone(case, told.inner):
        return "inner"
    if not lies_in(told.inner, other.whole):
        return "in"
    if not is_stone(other, told.avoider):
        return "avoider"
    return "holds" if lies_in(case.whole, told.avoider) else None


def lying_fault(case, other, told):
    """The first thing that is wrong with what is told of the lying of one case's stones in another's, or None."""
    check_case(case)
    check_case(other)
    if isinstance(told, SurelyIn):
        return rounds_fault(case, other, told.rounds)
    if isinstance(told, NeverIn):
        return never_in_fault(case, other, told)
    return may_in_fault(case, other, told) if isinstance(told, MayIn) else "kind"
