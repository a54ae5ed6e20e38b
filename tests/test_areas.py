"""[5.5] to [5.7] and the example of part 5: the least and the greatest area, and what shows them."""

import unittest
from fractions import Fraction

from feltstone.areas import (
    Least, all_least, area_fault, greatest_area, least_area, least_stone, leaving_costs, loss_rows, rows_fault,
)
from feltstone.cases import Case
from feltstone.kept import corners_touched, loss_of, ruler_ends, stride_is_let, tight_lots
from feltstone.patches import Patch
from feltstone.sure import Far, sure_places
from tests.made_cases import BOX, FIVE, NOTHING, TABLE, fits, stones_in, twelve_facts
from tests.makers import JUNK, cross, number, p, patch, r, ruler, source, within
from tests.test_kept import (
    AT_CORNERS, BARE_PLACE, ELEVEN, ONE_PLACE, ONE_RULER, STRETCH, TEN, TOUCHED, TRIANGLE, TWELVE, WHOLE_STRETCH, all_lots,
    ends_told, hull_told, is_kept, let, loss, ruled_cases, twice_of,
)

SMALL = [case for case in ruled_cases(60, 351) if len(case.whole) <= 8] + [AT_CORNERS, TOUCHED]


def area(stone):
    return twice_of(stone.corners)


def least_twice(case):
    """The least twice area of the hull of a kept lot, by going through all of them."""
    return min(area(hull_told(case, lot)) for lot in all_lots(case) if is_kept(case, lot))


def rows_told(case):
    """The loss rows, by the rule for entries behind entries."""
    many, ends = len(case.whole), ends_told(case)
    rows = []
    for first in (ends[0][1] if ends else (0,)):
        entries = [Fraction(0)]
        for k in range(1, many + 1):
            entries.append(max(entries[j] + loss(case, (first + j) % many, (first + k) % many) for j in range(k)
                               if let(case, (first + j) % many, (first + k) % many)))
        rows.append((first, tuple(r(entry) for entry in entries)))
    return tuple(rows)


def some_stone(case, picks):
    return stones_in(case, picks, 1)[1]


class LeastArea(unittest.TestCase):
    def test_example(self):
        told = least_area(case=FIVE)
        self.assertIs(type(told), Least)
        self.assertEqual((told.twice, told.kept), (r(4), (1, 2, 4)))
        self.assertEqual(all_least(case=FIVE), ((1, 2, 4),))
        self.assertEqual(greatest_area(case=FIVE), r(15))
        self.assertEqual(leaving_costs(case=FIVE), tuple(r(n) for n in (8, 4, 1, 3, 6)))
        self.assertEqual(loss_rows(case=FIVE), ((1, tuple(r(n) for n in (0, 0, 1, 3, 7, 11))),
                                                (2, tuple(r(n) for n in (0, 0, 3, 6, 11, 11)))))

    def test_against_all_kept_lots(self):
        for case in SMALL:
            told = least_area(case)
            self.assertIs(type(told.kept), tuple)
            self.assertTrue(is_kept(case, told.kept))
            self.assertEqual(list(told.kept), sorted(set(told.kept)))
            self.assertEqual(number(told.twice), least_twice(case))
            self.assertEqual(area(hull_told(case, told.kept)), least_twice(case))
            self.assertIsNone(area_fault(case=case, least=told))
            self.assertEqual(greatest_area(case), r(area(case.whole)))

    def test_no_stone_has_less_or_more(self):
        picks = source(352)
        for case in SMALL:
            for stone in stones_in(case, picks, 6):
                self.assertTrue(number(least_area(case).twice) <= area(stone) <= number(greatest_area(case)))

    def test_all_least(self):
        for case in SMALL + [TEN]:
            twice = least_area(case).twice
            due = tuple(lot for lot in tight_lots(case) if hull_told(case, lot).twice_area == twice)
            self.assertEqual(all_least(case), due)
            self.assertTrue(due)
        self.assertEqual(all_least(NOTHING), ((0,), (1,), (2,), (3,)))
        self.assertEqual(all_least(BOX), ((0, 2), (1, 3)))

    def test_no_area(self):
        for case in (NOTHING, ONE_PLACE, BARE_PLACE, STRETCH, WHOLE_STRETCH, BOX, ONE_RULER):
            self.assertEqual(least_area(case).twice, r(0))
        for case in (ONE_PLACE, BARE_PLACE, STRETCH, WHOLE_STRETCH):
            self.assertEqual(greatest_area(case), r(0))

    def test_led_along(self):
        for case in SMALL[:25]:
            told = [least_area(case).twice, greatest_area(case)]
            for other, size in ((case.shifted(p(3, "-1/2")), 1), (case.turned(), 1), (case.mirrored(), 1), (case.grown(r("3/2")), Fraction(9, 4))):
                self.assertEqual([least_area(other).twice, greatest_area(other)], [r(number(one) * size) for one in told])


class AreaFault(unittest.TestCase):
    def told(self, twice, kept, case=FIVE):
        return area_fault(case, Least(twice, kept))

    def test_right_ones(self):
        self.assertIsNone(self.told(r(4), (1, 2, 4)))
        self.assertIsNone(self.told(r(4), [1, 2, 4]))
        for lot in ((0, 2), (1, 3), [0, 2]):
            self.assertIsNone(self.told(r(0), lot, BOX))
        self.assertIsNone(self.told(r(0), (0, 2), NOTHING))

    def test_kept(self):
        for lot in JUNK + [(), [], (0, 1, 2), (4, 2, 1), (1, 2, 4, 5), (-1, 2, 4), (True, 2, 4), (1, 2.0, 4), (1, 1, 2, 4), iter((1, 2, 4)), 7]:
            for twice in (r(4), None):
                self.assertEqual(self.told(twice, lot), "kept")

    def test_twice(self):
        for twice in JUNK + [4, r(2), r(3), r(15), [4, 1], (8, 2), (4, True), (4.0, 1), r(-4), "4", (4, 1, 1)]:
            self.assertEqual(self.told(twice, (1, 2, 4)), "twice")
        self.assertEqual(self.told(r(4), (0, 2, 3)), "twice")

    def test_less(self):
        for lot in ((0, 2, 3), (0, 2, 4), (1, 3, 4), (0, 1, 2, 3, 4), [0, 1, 2, 4]):
            self.assertEqual(self.told(hull_told(FIVE, lot).twice_area, lot), "less")

    def test_wholly(self):
        for case in SMALL:
            least = least_twice(case)
            for lot in all_lots(case)[:60]:
                twice = area(hull_told(case, lot))
                due = "kept" if not is_kept(case, lot) else None if twice == least else "less"
                self.assertEqual(self.told(r(twice), lot, case), due)


class LossRows(unittest.TestCase):
    def test_wholly(self):
        for case in SMALL + [TEN, ELEVEN, TWELVE]:
            told = loss_rows(case)
            self.assertEqual(told, rows_told(case))
            self.assertIsNone(rows_fault(case=case, rows=told))
            self.assertTrue(all(type(row) is tuple and type(row[1]) is tuple for row in told))
            most = max(number(entries[-1]) for _, entries in told)
            self.assertEqual(number(least_area(case).twice), number(greatest_area(case)) - most)

    def test_without_rulers(self):
        self.assertEqual(loss_rows(NOTHING), ((0, (r(0), r(0), r(324), r(648), r(648))),))
        self.assertEqual(loss_rows(BARE_PLACE), ((0, (r(0), r(0))),))
        self.assertEqual(loss_rows(WHOLE_STRETCH), ((0, (r(0), r(0), r(0))), (1, (r(0), r(0), r(0)))))

    def test_rows(self):
        right = loss_rows(FIVE)
        row = right[0]
        for thing in JUNK + [(), right[:1], right + right[:1], (row, None), (row, ()), (row, (2,)), (row, (*right[1], 0)), iter(right),
                             dict(right), (row, iter(right[1])), (row, "ab"), (row, {1: 2, 2: 1}), None]:
            self.assertEqual(rows_fault(FIVE, thing), "rows")

    def told(self, row, at=1):
        rows = list(loss_rows(FIVE))
        rows[at] = row
        return rows_fault(FIVE, rows)

    def test_kinds_of_rows(self):
        right = loss_rows(FIVE)
        self.assertIsNone(rows_fault(FIVE, [[first, list(entries)] for first, entries in right]))
        self.assertIsNone(rows_fault(FIVE, right))

    def test_first(self):
        entries = loss_rows(FIVE)[1][1]
        for first in JUNK + [1, 0, 3, -2, (2,), 2.0, r(2)]:
            self.assertEqual(self.told((first, entries)), "first")
            self.assertEqual(self.told((first, None)), "first")
        self.assertEqual(self.told((True, loss_rows(FIVE)[0][1]), 0), "first")
        self.assertEqual(rows_fault(FIVE, loss_rows(FIVE)[::-1]), "first")

    def test_count(self):
        entries = loss_rows(FIVE)[1][1]
        for thing in JUNK + [entries[:-1], entries + entries[:1], iter(entries), 0, entries[:-1] + (11,), entries[:-1] + ([11, 1],),
                             entries[:-1] + ((22, 2),), entries[:-1] + ((11, True),), (None,) * 6, "abcdef"]:
            self.assertEqual(self.told((2, thing)), "count")

    def test_entry(self):
        entries = loss_rows(FIVE)[1][1]
        for k in range(6):
            for near in (Fraction(1, 10 ** 30), -1):
                wrong = list(entries)
                wrong[k] = r(number(wrong[k]) + near)
                self.assertEqual(self.told((2, wrong)), "entry")
        self.assertEqual(self.told((1, entries), 0), "entry")

    def test_row_by_row(self):
        first, second = loss_rows(FIVE)
        self.assertEqual(rows_fault(FIVE, ((1, second[1]), (7, ()))), "entry")
        self.assertEqual(rows_fault(FIVE, ((1, ()), (7, ()))), "count")
        self.assertEqual(rows_fault(FIVE, ((7, first[1]), (2, ()))), "first")
        self.assertEqual(rows_fault(FIVE, (first, (7, ()))), "first")


class LeavingCosts(unittest.TestCase):
    def test_wholly(self):
        for case in SMALL + [TEN, ELEVEN]:
            corners, told = case.whole.corners, leaving_costs(case)
            self.assertIs(type(told), tuple)
            self.assertEqual(len(told), len(corners))
            for k, cost in enumerate(told):
                due = cross(corners[k - 1], corners[k], corners[(k + 1) % len(corners)]) if len(corners) > 2 else 0
                self.assertEqual(number(cost), due)

    def test_of_few_corners(self):
        self.assertEqual(leaving_costs(BARE_PLACE), (r(0),))
        self.assertEqual(leaving_costs(WHOLE_STRETCH), (r(0), r(0)))
        self.assertEqual(leaving_costs(TRIANGLE), (r(16),) * 3)
        self.assertEqual(leaving_costs(NOTHING), (r(648 / 2),) * 4)

    def test_where_each_side_is_touched(self):
        for case in (FIVE, BOX, TRIANGLE, TEN, AT_CORNERS):
            many, costs, touched = len(case.whole), leaving_costs(case), corners_touched(case)
            for lot in all_lots(case):
                left = [k for k in range(many) if k not in lot]
                free = all((k + 1) % many not in left and k not in touched for k in left)
                self.assertIs(is_kept(case, lot), free)
                if free:
                    losses = sum(number(loss_of(case, one, two)) for one, two in zip(lot, lot[1:] + lot[:1]))
                    self.assertEqual(losses, sum(number(costs[k]) for k in left))


class LeastStone(unittest.TestCase):
    def test_there(self):
        self.assertEqual(least_stone(case=ONE_PLACE), patch((1, 2)))
        self.assertEqual(least_stone(BARE_PLACE), patch((1, 2)))
        self.assertEqual(least_stone(WHOLE_STRETCH), WHOLE_STRETCH.whole)
        self.assertEqual(least_stone(AT_CORNERS), patch((0, 0), (4, 2)))
        self.assertEqual(least_stone(TOUCHED), patch((0, 2), (4, 2)))
        self.assertEqual(least_stone(STRETCH), patch((-4, 7)))
        self.assertEqual(least_stone(Case(TABLE, [ruler(1, 1, 18)])), patch((9, 9)))

    def test_not_there(self):
        for case in (NOTHING, BOX, FIVE, TRIANGLE, ONE_RULER, TEN, Case(TABLE, [within(1, 1, 3), within(-1, -1, -3)]),
                     Case(TABLE, [ruler(1, 1, 18), ruler(1, 0, 9), ruler(-1, 0, 9)])):
            self.assertIsNone(least_stone(case))

    def test_wholly(self):
        picks, found = source(353), 0
        for case in ruled_cases(80, 354) + [AT_CORNERS, TOUCHED]:
            told = least_stone(case)
            touched = corners_touched(case)
            ends = ruler_ends(case)
            due = len(case.whole) == 1 or bool(ends) and all(set(row) & set(touched) for _, row in ends)
            self.assertIs(told is not None, due)
            if told is None:
                sure = sure_places(case)
                self.assertTrue(sure is None or not fits(case, sure))
                continue
            found += 1
            self.assertIs(type(told), Patch)
            self.assertTrue(fits(case, told))
            self.assertEqual(told, sure_places(case))
            self.assertEqual(told.twice_area, least_area(case).twice)
            for stone in stones_in(case, picks, 5):
                self.assertTrue(all(corner in stone for corner in told.corners))
        self.assertGreater(found, 8)


class Results(unittest.TestCase):
    def test_least(self):
        told = Least(twice=r(4), kept=[1, 2])
        self.assertEqual((told.twice, told.kept), (r(4), [1, 2]))
        self.assertTrue(told == Least(r(4), [1, 2]))
        for other in (Least(r(4), (1, 2)), Least(r(3), [1, 2]), Far(r(4), [1, 2]), None, (r(4), [1, 2])):
            self.assertFalse(told == other)
            self.assertTrue(told != other)
        for thing in JUNK:
            self.assertIs(Least(thing, 1).twice, thing)
            self.assertIs(Least(1, thing).kept, thing)


class ManyFigures(unittest.TestCase):
    def test_twelve_facts(self):
        for figures in (60, 300):
            case = twelve_facts(figures, 0)
            self.assertIsNone(area_fault(case, least_area(case)))
            self.assertIsNone(rows_fault(case, loss_rows(case)))
            self.assertGreater(number(greatest_area(case)), number(least_area(case).twice))
            self.assertEqual(len(leaving_costs(case)), len(case.whole))
            self.assertIsNone(least_stone(case))
            self.assertTrue(all(stride_is_let(case, k, k - 1) is False for k in range(1, len(case.whole))))


if __name__ == "__main__":
    unittest.main()
