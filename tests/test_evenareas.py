"""[7.9] Areas of the patches that fit readings."""

import unittest
from fractions import Fraction
from itertools import combinations

from feltstone.calipers import even_whole, readings_of
from feltstone.evenareas import LeastEven, greatest_caliper_area, least_even_area, least_even_fault
from feltstone.evens import even_of, is_even
from feltstone.newbreadth import Differing
from feltstone.patches import hull_of
from tests.made_cases import lowest
from tests.makers import JUNK, POINT, SHAPES, SQUARE, STRETCH, amount, number, numbers, p, r, source
from tests.results import check_errors, check_result
from tests.test_calipers import EXAMPLE, LINES, fits_readings, fitting_readings, readings_off, some_ways
from tests.test_evens import some_patches, twice
from tests.test_newbreadth import some_fitting, wrong_readings

ROWS = fitting_readings(741, 40)


def even_lots(row):
    """All lots of corners of the even whole that [7.9] calls even, found by going through all lots."""
    corners, found = even_whole(row).corners, []
    for many in range(len(corners) + 1):
        for lot in combinations(range(len(corners)), many):
            places = {numbers(corners[k]) for k in lot}
            touched = all(any(2 * amount(way, corners[k]) == number(told) for k in lot) for way, told in row)
            if touched and all((-x, -y) in places for x, y in places):
                found.append(lot)
    return found


def area_of(row, lot):
    corners = even_whole(row).corners
    return twice(hull_of([corners[k] for k in lot]))


class Greatest(unittest.TestCase):
    def test_wholly(self):
        self.assertEqual(greatest_caliper_area(readings=EXAMPLE), r("31/2"))
        for row in ROWS:
            told = greatest_caliper_area([list(one) for one in row])
            self.assertEqual(number(told), twice(even_whole(row)))

    def test_no_patch_that_fits_has_more(self):
        picks = source(742)
        for one in SHAPES + some_patches(743, 30):
            most = number(greatest_caliper_area(readings_off(one, some_ways(picks))))
            self.assertTrue(twice(one) <= twice(even_of(one)) <= most)

    def test_places_and_stretches(self):
        self.assertEqual(greatest_caliper_area(readings_off(POINT, LINES[:4])), r(0))
        self.assertEqual(greatest_caliper_area((((1, 2), r(0)), ((1, 0), r(3)))), r(0))

    def test_errors(self):
        check_errors(self, wrong_readings(greatest_caliper_area, least_even_area, lambda row: least_even_fault(row, LeastEven(None, None))))


class LeastAreas(unittest.TestCase):
    def test_example(self):
        told = least_even_area(readings=EXAMPLE)
        self.assertEqual(told, LeastEven(r(5), (0, 1, 3, 4)))

    def test_against_going_through_all_even_lots(self):
        sizes = set()
        for row in ROWS:
            told, lots = least_even_area(list(row)), even_lots(row)
            self.assertIs(type(told), LeastEven)
            self.assertIs(type(told.kept), tuple)
            self.assertIn(told.kept, lots)
            self.assertEqual(number(told.twice), min(area_of(row, lot) for lot in lots))
            self.assertEqual(number(told.twice), area_of(row, told.kept))
            self.assertIsNone(least_even_fault(readings=row, least=told))
            sizes.add(len(told.kept))
        self.assertLessEqual({1, 2, 4, 6}, sizes)

    def test_no_even_patch_that_fits_has_less(self):
        picks = source(744)
        for row in ROWS:
            least = number(least_even_area(row).twice)
            for one in some_fitting(row, picks):
                self.assertTrue(fits_readings(row, one) and is_even(one))
                self.assertGreaterEqual(twice(one), least)

    def test_the_hull_of_each_even_lot_is_even_and_fits(self):
        for row in ROWS[::4]:
            corners = even_whole(row).corners
            for lot in even_lots(row):
                one = hull_of([corners[k] for k in lot])
                self.assertTrue(is_even(one) and fits_readings(row, one))

    def test_places_and_stretches(self):
        self.assertEqual(least_even_area(readings_off(POINT, LINES[:4])), LeastEven(r(0), (0,)))
        self.assertEqual(least_even_area((((1, 2), r(0)), ((1, 0), r(3)))), LeastEven(r(0), (0, 1)))
        # A stretch between two opposite corners fits.
        self.assertEqual(least_even_area(EXAMPLE[:2]).twice, r(0))


class LeastEvenFault(unittest.TestCase):
    def fault(self, twice_told, kept, row=EXAMPLE):
        return least_even_fault(row, LeastEven(twice_told, kept))

    def test_right_ones(self):
        self.assertIsNone(self.fault(r(5), (0, 1, 3, 4)))
        self.assertIsNone(self.fault(r(5), [0, 1, 3, 4]))
        self.assertIsNone(self.fault(r(0), [0], readings_off(POINT, LINES[:3])))
        # Any lot with the least area will do.
        for row in ROWS:
            lots = even_lots(row)
            least = min(area_of(row, lot) for lot in lots)
            for lot in lots:
                self.assertEqual(self.fault(r(area_of(row, lot)), lot, row), None if area_of(row, lot) == least else "less")

    def test_kept(self):
        wrong = JUNK + [0, (), [], (0, 3), (1, 4), (2, 5), (1, 2, 3, 4, 5), (0, 1, 3), (0, 1, 4, 3), (0, 0, 1, 3, 4), (0, 1, 3, 4, 6), (-1, 0, 1, 3, 4),
                        (0, True, 3, 4), (False, 1, 3, 4), (0, 1, 3.0, 4), "0134", {0: 0, 1: 1, 3: 3, 4: 4}, ((0, 1, 3, 4),), (0, 1, None, 4)]
        for kept in wrong:
            for told in (r(5), None, r(4)):
                self.assertEqual(self.fault(told, kept), "kept")
        self.assertEqual(self.fault(r(0), (), readings_off(POINT, LINES[:3])), "kept")
        self.assertEqual(self.fault(r(0), (False,), readings_off(POINT, LINES[:3])), "kept")
        self.assertEqual(self.fault(r(0), (0,), readings_off(STRETCH, LINES[:3])), "kept")

    def test_each_lot_that_is_none(self):
        for row in (EXAMPLE, EXAMPLE[:2], readings_off(SQUARE, LINES[:4])):
            many, lots = len(even_whole(row)), even_lots(row)
            for size in range(many + 1):
                for lot in combinations(range(many), size):
                    if lot not in lots:
                        self.assertEqual(self.fault(r(0), lot, row), "kept")

    def test_twice(self):
        for told in JUNK + [5, (10, 2), [5, 1], (5, True), r("5/2"), r(4), r(-5), (5.0, 1)]:
            self.assertEqual(self.fault(told, (0, 1, 3, 4)), "twice")
        self.assertEqual(self.fault(r(5), (0, 1, 2, 3, 4, 5)), "twice")
        self.assertEqual(self.fault((True, 1), (0, 1, 2, 3, 4, 5)), "twice")

    def test_less(self):
        self.assertEqual(self.fault(r("31/2"), (0, 1, 2, 3, 4, 5)), "less")
        self.assertEqual(self.fault(r(8), (0, 1, 2, 3), EXAMPLE[:2]), "twice")
        self.assertEqual(self.fault(r(16), [0, 1, 2, 3], EXAMPLE[:2]), "less")

    def test_it_is_the_result(self):
        check_result(self, LeastEven, "twice", "kept")
        self.assertFalse(LeastEven(0, SQUARE) == Differing(0, SQUARE))


class ManyFigures(unittest.TestCase):
    def test_eight_readings(self):
        picks, wide = source(745), 10 ** 299
        one = hull_of([p(Fraction(picks.randint(-wide, wide), wide - k), Fraction(picks.randint(-wide, wide), wide + k)) for k in range(9)])
        row = readings_of(one, [lowest(wide - picks.randint(1, wide), (k - 4) * wide + picks.randint(1, wide)) for k in range(8)])
        told = least_even_area(row)
        self.assertIsNone(least_even_fault(row, told))
        self.assertEqual(number(told.twice), area_of(row, told.kept))


if __name__ == "__main__":
    unittest.main()
