"""Facts that follow from others, and cases compared by the stones that fit them."""

from feltstone.claims import answer_of
from feltstone.fitting import check_case, misfit
from feltstone.patches import Patch, lies_in
from feltstone.ratios import is_whole


class Unlike:
    """A stone that fits one of two cases alone: `which` is 0 for the first case, 1 for the second."""

    def __init__(self, which, stone):
        self.which = which
        self.stone = stone

    def __eq__(self, other):
        return isinstance(other, Unlike) and self.which == other.which and self.stone == other.stone


def follows(case, fact):
    """The Answer to whether the stone keeps the fact."""
    return answer_of(case, ("fact", fact))


def follows_from_others(case, number, numbers):
    """Whether a fact follows from the table and those facts of the numbers that are not its own."""
    left_out = [one for one in range(len(case)) if one == number or one not in numbers]
    return follows(case.without_facts(left_out), case.facts[number]).breaking is None


def needless_facts(case):
    """The numbers of the facts each of which follows from the table and all other facts."""
    check_case(case)
    numbers = list(range(len(case)))
    return tuple([number for number in numbers if follows_from_others(case, number, numbers)])


def lean_facts(case):
    """The numbers of the facts that stand when each that follows from those that stand is struck, the last first."""
    check_case(case)
    standing = list(range(len(case)))
    for number in reversed(range(len(case))):
        if follows_from_others(case, number, standing):
            standing = [one for one in standing if one != number]
    return tuple(standing)


def stone_of_one_alone(case, other):
    """A stone that fits the case and not the other one, or None; some stone fits the case."""
    if not lies_in(case.whole, other.table.ground):
        return case.whole
    for fact in other.facts:
        breaking = follows(case, fact).breaking
        if breaking is not None:
            return breaking
    return None


def all_fit(case, other):
    """None if each stone that fits the case fits the other one, too, else one that does not."""
    check_case(case)
    check_case(other)
    return stone_of_one_alone(case, other)


def alike_cases(case, other):
    """None if the same stones fit both cases, else a stone that fits one alone: the first, if there is such a one."""
    for which, stone in enumerate((all_fit(case, other), all_fit(other, case))):
        if stone is not None:
            return Unlike(which, stone)
    return None


def unlike_fault(case, other, unlike):
    """The first thing that is wrong with an Unlike of two cases, or None."""
    check_case(case)
    check_case(other)
    if not is_whole(unlike.which, 0, 1):
        return "which"
    first, second = (case, other) if unlike.which == 0 else (other, case)
    if not isinstance(unlike.stone, Patch) or misfit(first, unlike.stone) is not None:
        return "fit"
    return "alike" if misfit(second, unlike.stone) is None else None
