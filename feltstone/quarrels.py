"""Quarrels: least lots of facts that no stone keeps together."""

from feltstone.cases import Case
from feltstone.facts import Meets
from feltstone.fitting import empty_patches, has_stone
from feltstone.lots import has_all, is_ascending, lots_among
from feltstone.ratios import is_row, is_whole

MOST_IN_QUARREL = 3


class Quarrel:
    """The result for a case without a stone: the numbers of a quarrel."""

    def __init__(self, facts):
        self.facts = facts

    def __eq__(self, other):
        return isinstance(other, Quarrel) and self.facts == other.facts


def is_kept_together(case, lot):
    """Whether some stone of the table keeps all facts with these numbers."""
    return has_stone(Case(case.table, [case.facts[number] for number in lot]))


def may_be_least(case, lot, found):
    """Whether a lot may be a quarrel: none that is found already stands in it, and at most one Meets does.

    Two Meets are never needed at once: which patch of the case is empty hangs on halves and one fact alone.
    """
    meets = [number for number in lot if isinstance(case.facts[number], Meets)]
    return len(meets) < 2 and not any([has_all(lot, quarrel) for quarrel in found])


def quarrels_of(case):
    """All quarrels of a case: those of fewer facts first, then ascending."""
    found = []
    for lot in lots_among(list(range(len(case))), MOST_IN_QUARREL):
        # Lots of fewer facts come first, so all quarrels that may stand in this one are found already.
        if may_be_least(case, lot, found) and not is_kept_together(case, lot):
            found.append(lot)
    return tuple(found)


def any_stone(case):
    """The whole of a case, if a stone fits it, else its first quarrel."""
    if has_stone(case):
        return case.whole
    return Quarrel(quarrels_of(case)[0])


def some_quarrel(case):
    """A quarrel of a case without a stone: each fact is left out without which there still is no stone."""
    # Halves alone, and where these leave a whole, one Meets with them, make the first empty patch empty.
    empty = empty_patches(case)[0]
    numbers = [number for number, fact in enumerate(case.facts) if number == empty or not isinstance(fact, Meets)]
    for number in list(numbers):
        rest = [one for one in numbers if one != number]
        if not is_kept_together(case, rest):
            numbers = rest
    return Quarrel(tuple(numbers))


def is_lot(case, facts):
    """Whether this is a list or tuple of one or more ascending, unlike numbers of facts of the case."""
    if not is_row(facts) or len(facts) == 0:
        return False
    if not all([is_whole(number, 0, len(case) - 1) for number in facts]):
        return False
    return is_ascending(facts)


def quarrel_fault(case, facts):
    """The first thing that keeps these numbers from being a quarrel, or None."""
    if not is_lot(case, facts):
        return "facts"
    if is_kept_together(case, facts):
        return "stone"
    for left_out in facts:
        if not is_kept_together(case, [number for number in facts if number != left_out]):
            return "least"
    return None
