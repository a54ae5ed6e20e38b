"""Whether the stones of two cases meet: in every pair of them, in some, or in none."""

from feltstone.fitting import check_case, full_lot, is_stone, numbers_of
from feltstone.patches import common_patch, corner_patches, hull_of, low_of, reach_of
from feltstone.places import is_direction
from feltstone.ratios import compare, is_number_in, is_row
from feltstone.rounds import Round, are_entries, part_lots, round_fault


class SurelyMeet:
    """The result where every pair meets: entries (direction, number, number) that go round once."""

    def __init__(self, entries):
        self.entries = entries

    def __eq__(self, other):
        return isinstance(other, SurelyMeet) and self.entries == other.entries


class NeverMeet:
    """The result where no pair meets: along the direction the first whole is below the second."""

    def __init__(self, direction):
        self.direction = direction

    def __eq__(self, other):
        return isinstance(other, NeverMeet) and self.direction == other.direction


class MayMeet:
    """The result where some pairs meet: along the direction the first stone of this pair is below the second."""

    def __init__(self, direction, one, other):
        self.direction = direction
        self.one = one
        self.other = other

    def __eq__(self, other):
        return (
            isinstance(other, MayMeet) and self.direction == other.direction
            and self.one == other.one and self.other == other.other
        )


def direction_apart(one, other):
    """A direction along which the first of two patches without a common place is below the second."""
    return part_lots(corner_patches(one), corner_patches(other)).direction


def meeting(case, other):
    """Whether every pair of stones meets, some, or none, with what shows it."""
    told = part_lots(full_lot(case), full_lot(other))
    if isinstance(told, Round):
        numbers, others = numbers_of(case), numbers_of(other)
        return SurelyMeet(tuple([(way, numbers[index], others[at]) for way, index, at in told.entries]))
    if common_patch(case.whole, other.whole) is None:
        return NeverMeet(direction_apart(case.whole, other.whole))
    return MayMeet(told.direction, hull_of(told.ones), hull_of(told.twos))


def is_below(one, other, direction):
    """Whether all amounts of a patch are below all of another one."""
    return compare(reach_of(one, direction), low_of(other, direction)) < 0


def is_meeting_entry(entry, numbers, others):
    """Whether this is a sequence of a direction and two of the numbers."""
    if not is_row(entry) or len(entry) != 3:
        return False
    return is_direction(entry[0]) and is_number_in(entry[1], numbers) and is_number_in(entry[2], others)


def surely_fault(case, other, entries):
    """The first thing that is wrong with the entries of a SurelyMeet, or None."""
    numbers, others = numbers_of(case), numbers_of(other)
    if not are_entries(entries):
        return "entries"
    if not all([is_meeting_entry(entry, numbers, others) for entry in entries]):
        return "entry"
    rows = [(way, numbers.index(number), others.index(at)) for way, number, at in entries]
    return round_fault(full_lot(case), full_lot(other), Round(rows))


def never_fault(one, other, direction):
    """The first thing that is wrong with a direction along which a patch is below another one, or None."""
    if not is_direction(direction):
        return "direction"
    return None if is_below(one, other, direction) else "below"


def may_fault(case, other, told):
    """The first thing that is wrong with a MayMeet, or None."""
    if not is_direction(told.direction):
        return "direction"
    if not is_stone(case, told.one):
        return "one"
    if not is_stone(other, told.other):
        return "other"
    if not is_below(told.one, told.other, told.direction):
        return "below"
    return "apart" if common_patch(case.whole, other.whole) is None else None


def meeting_fault(case, other, told):
    """The first thing that is wrong with what is told of the meeting of two cases, or None."""
    check_case(case)
    check_case(other)
    if isinstance(told, SurelyMeet):
        return surely_fault(case, other, told.entries)
    if isinstance(told, NeverMeet):
        return never_fault(case.whole, other.whole, told.direction)
    return may_fault(case, other, told) if isinstance(told, MayMeet) else "kind"
