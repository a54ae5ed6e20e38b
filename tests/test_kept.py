"""[5.1] to [5.4] Strides, losses and kept lots."""

import unittest
from fractions import Fraction
from itertools import combinations

from feltstone.areas import (
    Least, all_least, area_fault, greatest_area, least_area, least_stone, leaving_costs, loss_rows, rows_fault,
)
from feltstone.between import area_verdict, growing_stones, stone_of_area, sure_area
from feltstone.cases import Case
from feltstone.errors import BadAmount, BadCorner, BadKept, NoArea, NoStones, TooMany
from feltstone.facts import Meets, Ruler
from feltstone.kept import (
    check_corner, check_kept, check_ruled, corners_touched, kept_hull, loss_of, ruler_ends, stride_is_let, tight_lots,
)
from feltstone.patches import hull_of
from tests.made_cases import BOX, FIVE, FOUR, MIXED, NOTHING, TABLE, TOO_FAR, TOO_LOW, fits, lowest, some_fact
from tests.makers import JUNK, cross, meets, number, patch, r, ruler, source, table, within

ONE_PLACE = Case(TABLE, [within(1, 0, 1), ruler(-1, 0, -1), ruler(0, 1, 2), within(0, -1, -2)])
BARE_PLACE = Case(TABLE, [within(1, 0, 1), within(-1, 0, -1), within(0, 1, 2), within(0, -1, -2)])
STRETCH = Case(TABLE, [within(1, 1, 3), within(-1, -1, -3), ruler(0, 1, 7)])
WHOLE_STRETCH = Case(TABLE, [ruler(1, 1, 3), within(-1, -1, -3), ruler(1, 0, 5), ruler(-1, 0, 1)])
TRIANGLE = Case(TABLE, [ruler(-1, 0, 0), ruler(0, -1, 0), ruler(1, 1, 4)])
ONE_RULER = Case(TABLE, [within(1, 0, 4), ruler(0, 1, 2)])
AT_CORNERS = Case(TABLE, [*FOUR, ruler(1, 1, 6), ruler(-1, -1, 0)])
TOUCHED = Case(TABLE, [*[within(*fact.direction, Fraction(*fact.amount)) for fact in FOUR], ruler(1, 1, 6), ruler(-1, 2, 4)])


def circle(many, kinds):
    """A case with a whole of so many corners: the sides touch a circle, and each side is told by a fact of its kind."""
    facts = []
    for k in range(many):
        t = Fraction(4 * k - 2 * many + 2, many)
        x, y, z = 1 - t * t, 2 * t, 1 + t * t
        way = lowest(x / z, y / z)
        facts.append(kinds[k % len(kinds)](way[0], way[1], 5 * Fraction(way[0]) / (x / z) if x else 5))
    return Case(table(-50, -50, 50, 50), facts)


TEN, ELEVEN = circle(10, [ruler]), circle(11, [ruler])
TWELVE = circle(12, [ruler, ruler, within])


def ruled_cases(many=40, seed=341):
    """Cases without a Meets that have stones."""
    picks = source(seed)
    cases = [NOTHING, BOX, FIVE, ONE_PLACE, BARE_PLACE, STRETCH, WHOLE_STRETCH, TRIANGLE, ONE_RULER, AT_CORNERS, TOUCHED,
             circle(5, [ruler]), circle(7, [ruler, within])]
    while len(cases) < many:
        facts = [some_fact(picks) for _ in range(picks.randint(1, 9))]
        case = Case(table(-5, -4, 6, 5), [fact for fact in facts if not isinstance(fact, Meets)])
        if None not in [one for _, one in case.patches]:
            cases.append(case)
    return cases


def ends_told(case):
    """For each ruler the corners of the whole that have its amount."""
    rows = []
    for k, fact in enumerate(case.facts):
        if isinstance(fact, Ruler):
            way, at = fact.direction, number(fact.amount)
            rows.append((k, tuple(c for c, (x, y) in enumerate(case.whole.corners)
                                  if way[0] * number(x) + way[1] * number(y) == at)))
    return tuple(rows)


def is_kept(case, lot):
    return len(lot) > 0 and all(set(ends) & set(lot) for _, ends in ends_told(case))


def all_lots(case):
    many = len(case.whole)
    return [lot for size in range(1, many + 1) for lot in combinations(range(many), size)]


def twice_of(corners):
    """Twice the area of corners that turn left."""
    return sum(cross(corners[0], one, two) for one, two in zip(corners, corners[1:]))


def hull_told(case, lot):
    return hull_of([case.whole.corners[k] for k in lot])


def passed(case, one, other):
    many, k, row = len(case.whole), one, []
    while True:
        k = (k + 1) % many
        if k == other:
            return row
        row.append(k)


def let(case, one, other):
    between = passed(case, one, other)
    return not any(set(ends) <= set(between) for _, ends in ends_told(case))


def loss(case, one, other):
    return twice_of([case.whole.corners[k] for k in [one, *passed(case, one, other), other]])


class RuledErrors(unittest.TestCase):
    CALLS = {
        check_ruled: [()], check_corner: [(0,), (None,), (99,)], ruler_ends: [()], corners_touched: [()],
        stride_is_let: [(0, 0), (None, None), (0, 99)], loss_of: [(0, 0), (None, None), (0, 99)],
        check_kept: [((0,),), (None,), ((99,),)], kept_hull: [((0,),), (None,), ((99,),)],
        least_area: [()], area_fault: [(Least(None, None),)], all_least: [()], greatest_area: [()], loss_rows: [()],
        rows_fault: [(None,), ((),)], leaving_costs: [()], least_stone: [()], stone_of_area: [(r(0),), (None,), (r(-1),)],
        area_verdict: [(r(0),), (None,)], sure_area: [()],
    }

    def each(self, case):
        for call, rows in self.CALLS.items():
            for row in rows:
                yield lambda call=call, row=row: call(case, *row)
        yield lambda: list(tight_lots(case))
        yield lambda: list(growing_stones(case))

    def test_no_area_ahead_of_no_stones_ahead_of_all_others(self):
        rows = [(Case(TABLE, MIXED), 1), (Case(TABLE, [meets((20, 0))]), 0), (Case(TABLE, [*FOUR, ruler(1, 1, 7), meets((2, 1))]), 5),
                (BOX.with_fact(meets((2, 1))), 4), (Case(TABLE, [FOUR[0], meets((0, 0)), meets((1, 1))]), 1),
                (ELEVEN.with_fact(meets((0, 0))), 11)]
        for case, number_told in rows:
            for call in self.each(case):
                with self.assertRaises(NoArea) as caught:
                    call()
                self.assertEqual(caught.exception.number, number_told)

    def test_no_stones_ahead_of_all_others(self):
        for case in (TOO_FAR, TOO_LOW, Case(TABLE, [ruler(1, 0, 20)]), Case(table(1, 1, 2, 3), FOUR)):
            for call in self.each(case):
                with self.assertRaises(NoStones):
                    call()

    def test_check_ruled(self):
        for case in ruled_cases():
            self.assertIs(check_ruled(case=case), case)


class Corners(unittest.TestCase):
    def test_check_corner(self):
        for case in (FIVE, ONE_PLACE, STRETCH):
            for k in range(len(case.whole)):
                self.assertEqual(check_corner(case=case, number=k), k)
            for wrong in JUNK + [-1, len(case.whole), 10 ** 40, (0,), [0], r(0), 0.0]:
                with self.assertRaises(BadCorner) as caught:
                    check_corner(case, wrong)
                self.assertIs(caught.exception.number, wrong)

    def test_example(self):
        self.assertEqual(FIVE.whole, patch((0, 0), (4, 0), (4, 1), (3, 2), (0, 2)))
        self.assertEqual(ruler_ends(case=FIVE), ((0, (1, 2)), (1, (3, 4)), (2, (0, 4)), (3, (0, 1)), (4, (2, 3))))
        self.assertEqual(corners_touched(case=FIVE), ())

    def test_ends(self):
        self.assertEqual(ruler_ends(NOTHING), ())
        self.assertEqual(ruler_ends(ONE_PLACE), ((1, (0,)), (2, (0,))))
        self.assertEqual(ruler_ends(STRETCH), ((2, (0,)),))
        self.assertEqual(ruler_ends(WHOLE_STRETCH), ((0, (0, 1)), (2, (1,)), (3, (0,))))
        self.assertEqual(ruler_ends(ONE_RULER), ((1, (2, 3)),))
        self.assertEqual(ruler_ends(AT_CORNERS), ((0, (1, 2)), (1, (2, 3)), (2, (0, 3)), (3, (0, 1)), (4, (2,)), (5, (0,))))
        self.assertEqual(ruler_ends(BOX)[2], (2, (0, 3)))
        for case in ruled_cases():
            self.assertEqual(ruler_ends(case), ends_told(case))

    def test_touched(self):
        self.assertEqual(corners_touched(AT_CORNERS), (0, 2))
        self.assertEqual(corners_touched(TOUCHED), (2, 3))
        self.assertEqual(corners_touched(ONE_PLACE), (0,))
        self.assertEqual(corners_touched(WHOLE_STRETCH), (0, 1))
        self.assertEqual(corners_touched(NOTHING), ())
        self.assertEqual(corners_touched(Case(TABLE, [*FOUR, ruler(1, 1, 6), ruler(2, 1, 10)])), (2,))
        for case in ruled_cases():
            told = sorted({ends[0] for _, ends in ends_told(case) if len(ends) == 1})
            self.assertEqual(corners_touched(case), tuple(told))


class Strides(unittest.TestCase):
    def test_example(self):
        self.assertEqual([loss_of(case=FIVE, one=k, other=(k + 2) % 5) for k in range(5)], [r(n) for n in (4, 1, 3, 6, 8)])
        self.assertIs(stride_is_let(case=FIVE, one=0, other=2), True)
        self.assertIs(stride_is_let(FIVE, 0, 3), False)
        self.assertEqual(loss_of(FIVE, 3, 3), r(15))
        self.assertEqual(loss_of(FIVE, 1, 4), r(7))

    def test_from_a_corner_to_itself(self):
        for case in (NOTHING, ONE_PLACE, BARE_PLACE, STRETCH, WHOLE_STRETCH, ONE_RULER, FIVE, AT_CORNERS):
            for k in range(len(case.whole)):
                self.assertEqual(loss_of(case, k, k), case.whole.twice_area)
                self.assertIs(stride_is_let(case, k, k), is_kept(case, (k,)))

    def test_across_corner_0(self):
        self.assertEqual(loss_of(FIVE, 4, 1), r(8))
        self.assertEqual(loss_of(FIVE, 3, 1), r(14))
        self.assertIs(stride_is_let(FIVE, 4, 1), True)
        self.assertIs(stride_is_let(FIVE, 3, 1), False)
        self.assertIs(stride_is_let(FIVE, 4, 0), True)
        self.assertEqual(loss_of(FIVE, 4, 0), r(0))

    def test_a_ruler_at_a_corner_alone(self):
        self.assertIs(stride_is_let(AT_CORNERS, 1, 3), False)
        self.assertIs(stride_is_let(AT_CORNERS, 0, 2), True)
        self.assertIs(stride_is_let(AT_CORNERS, 3, 1), False)
        self.assertIs(stride_is_let(TOUCHED, 3, 2), True)

    def test_wholly(self):
        for case in ruled_cases():
            for one in range(len(case.whole)):
                for other in range(len(case.whole)):
                    self.assertIs(stride_is_let(case, one, other), let(case, one, other))
                    self.assertEqual(loss_of(case, one, other), r(loss(case, one, other)))

    def test_errors(self):
        for call in (stride_is_let, loss_of):
            for wrong in JUNK + [-1, 5, (0,)]:
                for one, other in ((wrong, 0), (wrong, 99), (0, wrong)):
                    with self.assertRaises(BadCorner) as caught:
                        call(FIVE, one, other)
                    self.assertIs(caught.exception.number, wrong)


class KeptLots(unittest.TestCase):
    def test_right_ones(self):
        for lot in ((1, 2, 4), (0, 2, 3), (0, 1, 2, 3, 4), (0, 2, 4), (1, 3, 4)):
            self.assertEqual(check_kept(case=FIVE, kept=lot), lot)
            told = check_kept(FIVE, list(lot))
            self.assertEqual(told, lot)
            self.assertIs(type(told), tuple)
            self.assertEqual(kept_hull(case=FIVE, kept=list(lot)), hull_told(FIVE, lot))
        self.assertEqual(kept_hull(FIVE, (1, 2, 4)), patch((0, 2), (4, 0), (4, 1)))
        self.assertEqual(kept_hull(NOTHING, [3]), patch((-9, 9)))
        self.assertEqual(check_kept(NOTHING, (0, 2)), (0, 2))

    def test_corner(self):
        wrong = JUNK + [(), [], (1, 1, 2, 4), (2, 1, 4), (4, 2, 1), (-1, 1, 2, 4), (1, 2, 4, 5), (0, 1, 2, 3, 4, 5), (1, 2.0, 4),
                        (False, 2, 4), (1, True, 4), (True, 2, 4), ("1", "2"), (1, None), iter((1, 2, 4)), {1: 2}, ((1,), (2,)), 3]
        for lot in wrong:
            for call in (check_kept, kept_hull):
                with self.assertRaises(BadKept) as caught:
                    call(FIVE, lot)
                self.assertEqual(caught.exception.what, "corner")

    def test_ruler(self):
        for lot in ((0,), (1, 2), (0, 1, 2), [2, 3, 4], (1, 3), (0, 4), (2, 4)):
            for call in (check_kept, kept_hull):
                with self.assertRaises(BadKept) as caught:
                    call(FIVE, lot)
                self.assertEqual(caught.exception.what, "ruler")

    def test_wholly(self):
        for case in ruled_cases():
            if len(case.whole) > 8:
                continue
            for lot in all_lots(case):
                strides = list(zip(lot, lot[1:] + lot[:1]))
                self.assertIs(is_kept(case, lot), all(stride_is_let(case, *stride) for stride in strides))
                if not is_kept(case, lot):
                    with self.assertRaises(BadKept):
                        check_kept(case, lot)
                    continue
                self.assertEqual(check_kept(case, lot), lot)
                hull = kept_hull(case, lot)
                self.assertTrue(fits(case, hull))
                losses = sum(number(loss_of(case, *stride)) for stride in strides)
                self.assertEqual(number(hull.twice_area), number(case.whole.twice_area) - losses)


class TightLots(unittest.TestCase):
    def test_wholly(self):
        for case in ruled_cases() + [TEN]:
            if len(case.whole) > 10:
                continue
            kept = {lot: is_kept(case, lot) for lot in all_lots(case)}
            due = [lot for lot in kept if kept[lot] and not any(
                kept.get(lot[:k] + lot[k + 1:], False) for k in range(len(lot)))]
            told = list(tight_lots(case=case))
            self.assertEqual(told, due)
            self.assertTrue(all(type(lot) is tuple for lot in told))

    def test_some(self):
        self.assertEqual(list(tight_lots(NOTHING)), [(0,), (1,), (2,), (3,)])
        self.assertEqual(list(tight_lots(BOX)), [(0, 2), (1, 3)])
        self.assertEqual(list(tight_lots(FIVE)), [(0, 1, 3), (0, 2, 3), (0, 2, 4), (1, 2, 4), (1, 3, 4)])
        self.assertEqual(list(tight_lots(ONE_PLACE)), [(0,)])
        self.assertEqual(list(tight_lots(WHOLE_STRETCH)), [(0, 1)])
        self.assertEqual(list(tight_lots(ONE_RULER)), [(2,), (3,)])

    def test_too_many(self):
        self.assertEqual((len(TEN.whole), len(ELEVEN.whole), len(TWELVE.whole)), (10, 11, 12))
        self.assertGreater(len(list(tight_lots(TEN))), 10)
        for case in (ELEVEN, TWELVE):
            for call in (tight_lots, all_least):
                with self.assertRaises(TooMany) as caught:
                    list(call(case))
                self.assertEqual(caught.exception.most, 10)

    def test_the_others_have_no_limit(self):
        for case in (ELEVEN, TWELVE):
            self.assertEqual(ruler_ends(case), ends_told(case))
            self.assertEqual(check_corner(case, 10), 10)
            self.assertIs(stride_is_let(case, 9, 2), let(case, 9, 2))
            lot = tuple(range(0, len(case.whole), 2))
            self.assertEqual(kept_hull(case, lot), hull_told(case, lot))
            self.assertTrue(fits(case, kept_hull(case, least_area(case).kept)))
            self.assertEqual(len(leaving_costs(case)), len(case.whole))
            self.assertTrue(list(growing_stones(case))[-1] == case.whole)
            with self.assertRaises(BadAmount):
                stone_of_area(case, None)


if __name__ == "__main__":
    unittest.main()
