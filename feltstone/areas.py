"""The areas of the stones that fit a case without Meets, all told twice as large as they are."""

from feltstone.corners import couples_round
from feltstone.kept import check_ruled, corners_touched, ends_alone, hull_at, is_let, kept_word, stride_loss
from feltstone.kept import tight_lots
from feltstone.lots import has_each
from feltstone.places import cross_at
from feltstone.ratios import ZERO, compare, is_ratio, is_row, is_whole, minus, plus


class Least:
    """The least twice area, and a kept lot whose hull has it."""

    def __init__(self, twice, kept):
        self.twice = twice
        self.kept = kept

    def __eq__(self, other):
        return isinstance(other, Least) and self.twice == other.twice and self.kept == other.kept


def best_stride(case, first, sums, steps):
    """The greatest sum of losses up to so many steps from a corner, and from how many steps its last stride leads.

    `sums` has the greatest sums up to fewer steps; the stride from one corner to the next is let always.
    """
    many, best, before = len(case.whole), None, None
    for start, total in enumerate(sums):
        one, other = (first + start) % many, (first + steps) % many
        if is_let(case, one, other):
            told = plus(total, stride_loss(case, one, other))
            if best is None or compare(told, best) > 0:
                best, before = told, start
    return (best, before)


def best_strides(case, first):
    """By the steps from a corner on, up to once round: the greatest sums, and where their last strides begin."""
    sums, befores = [ZERO], [None]
    for steps in range(1, len(case.whole) + 1):
        best, before = best_stride(case, first, sums, steps)
        sums.append(best)
        befores.append(before)
    return (tuple(sums), befores)


def first_corners(case):
    """The corners of the first ruler's patch, or corner 0 where there is no ruler."""
    rows = ends_alone(case)
    return rows[0] if rows else (0,)


def loss_rows(case):
    """For each corner of the first ruler's patch the greatest sums of losses of let strides from there on."""
    check_ruled(case)
    return tuple([(first, best_strides(case, first)[0]) for first in first_corners(case)])


def corners_of_strides(case, first, befores):
    """The ascending corners at which the strides end that lead once round from a corner with the greatest loss."""
    corners, steps = [], len(case.whole)
    while steps > 0:
        steps = befores[steps]
        corners.append((first + steps) % len(case.whole))
    return tuple(sorted(corners))


def least_area(case):
    """The least twice area of a stone that fits."""
    check_ruled(case)
    greatest, kept = None, None
    for first in first_corners(case):
        sums, befores = best_strides(case, first)
        if greatest is None or compare(sums[-1], greatest) > 0:
            greatest, kept = sums[-1], corners_of_strides(case, first, befores)
    return Least(minus(case.whole.twice_area, greatest), kept)


def area_fault(case, least):
    """The first thing that is wrong with a Least, or None."""
    twice = least_area(case).twice
    if kept_word(case, least.kept) is not None:
        return "kept"
    if not is_ratio(least.twice) or least.twice != hull_at(case, least.kept).twice_area:
        return "twice"
    return "less" if least.twice != twice else None


def all_least(case):
    """All tight kept lots whose hull has the least area."""
    check_ruled(case)
    lots = list(tight_lots(case))
    twice = least_area(case).twice
    return tuple([lot for lot in lots if hull_at(case, lot).twice_area == twice])


def greatest_area(case):
    """The greatest twice area of a stone that fits."""
    return check_ruled(case).whole.twice_area


def row_fault(row, due):
    """The first thing that is wrong with one couple of loss rows, or None."""
    first, entries = row
    if not is_whole(first) or first != due[0]:
        return "first"
    if not is_row(entries) or len(entries) != len(due[1]) or not all([is_ratio(entry) for entry in entries]):
        return "count"
    return "entry" if tuple(entries) != due[1] else None


def rows_fault(case, rows):
    """The first thing that is wrong with loss rows, or None."""
    due = loss_rows(case)
    if not is_row(rows) or len(rows) != len(due) or not all([is_row(row) and len(row) == 2 for row in rows]):
        return "rows"
    for row, right in zip(rows, due):
        fault = row_fault(row, right)
        if fault is not None:
            return fault
    return None


def leaving_costs(case):
    """For each corner twice the area of its triangle with the corner before and the one behind it."""
    sides = couples_round(check_ruled(case).whole.corners)
    return tuple([cross_at(sides[k - 1][0], sides[k][0], sides[k][1]) for k in range(len(sides))])


def least_stone(case):
    """The stone that fits and lies in every stone that fits, or None."""
    check_ruled(case)
    if len(case.whole) == 1:
        return case.whole
    rows, touched = ends_alone(case), corners_touched(case)
    return hull_at(case, touched) if rows and has_each(touched, rows) else None
