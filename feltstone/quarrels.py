"""Quarrels: least lots of facts that no stone keeps together."""

from feltstone.cases import Case
from feltstone.facts import Meets
from feltstone.fitting import has_stone
from feltstone.ratios import is_row, is_whole


class Quarrel:
    """The result for a case without a stone: the numbers of a quarrel."""

    def __init__(self, facts):
        self.facts = facts

    def __eq__(self, other):
        return isinstance(other, Quarrel) and self.facts == other.facts


def small_lots(many):
    """All ascending tuples of one, two or three numbers below `many`: fewer numbers first, then ascending."""
    ones = [(one,) for one in range(many)]
    twos = [(one, two) for one in range(many) for two in range(one + 1, many)]
    threes = [(one, two, three) for one, two in twos for three in range(two + 1, many)]
    return ones + twos + threes


def is_kept_together(case, lot):
    """Whether some stone of the table keeps all facts with these numbers."""
    return has_stone(Case(case.table, [case.facts[number] for number in lot]))


def has_all(lot, numbers):
    """Whether all of the numbers stand in the lot."""
    return all([number in lot for number in numbers])


def may_be_least(case, lot, found):
    """Whether a lot may be a quarrel: none that is found already stands in it, and at most one Meets does.

    Two Meets are never needed at once: which patch of the case is empty hangs on halves and one fact alone.
    """
    meets = [number for number in lot if isinstance(case.facts[number], Meets)]
    return len(meets) < 2 and not any([has_all(lot, quarrel) for quarrel in found])


def quarrels_of(case):
    """All quarrels of a case: those of fewer facts first, then ascending."""
    found = []
    for lot in small_lots(len(case)):
        # Lots of fewer facts come first, so all quarrels that may stand in this one are found already.
        if may_be_least(case, lot, found) and not is_kept_together(case, lot):
            found.append(lot)
    return tuple(found)


def any_stone(case):
    """The whole of a case, if a stone fits it, else its first quarrel."""
    if has_stone(case):
        return case.whole
    return Quarrel(quarrels_of(case)[0])


def is_lot(case, facts):
    """Whether this is a list or tuple of one or more ascending, unlike numbers of facts of the case."""
    if not is_row(facts) or len(facts) == 0:
        return False
    if not all([is_whole(number, 0, len(case) - 1) for number in facts]):
        return False
    return all([one < other for one, other in zip(facts, facts[1:])])


def quarrel_fault(case, facts):
    """The first thing that keeps these numbers from being a quarrel, or None."""
    if not is_lot(case, facts):
        return "facts"
    if is_kept_together(case, facts):
        return "stone"
    for left_out in facts:
        if not is_kept_together(case, [number for number in facts if number != left_out]):
            return "least"
    return None
