"""[8.1] to [8.3] Gaps of patches and of the stones that fit, and openings."""

import unittest
from fractions import Fraction

from feltstone.cases import Case
from feltstone.errors import BadBreadth, NoStones
from feltstone.gaps import Gap, gap_fault, gap_range, goes_through, least_breadth, least_gap
from feltstone.patches import Patch, grow_patch, mirror_patch, shift_patch, turn_patch
from feltstone.reaches import stone_of_breadth
from tests.made_cases import (
    BOX, FIVE, NOTHING, ONE_PLACE, ON_STRETCH, TABLE, THREE_PLACES, cases_with_stones, critical, fits, greatest_least,
    least_greatest, lot_of, lowest, stones_in, twelve_facts,
)
from tests.makers import (
    DIRECTIONS, HEXAGON, JUNK, POINT, SHAPES, SQUARE, STRETCH, TRIANGLE, UPRIGHT, bow, meets, number, numbers, p, patch, r,
    ruler, source, table,
)
from tests.results import check_errors, check_result
from tests.test_critical import NO_WAYS
from tests.test_evens import breadth, some_patches
from tests.test_reaches import NEAR
from tests.test_sure import NO_STONES

NO_BREADTHS = JUNK + [1, 0, 4, [4, 1], (2, 4), (1, 0), (True, 1), (4, True), (-1, 1), (-1, 2), (4.0, 1), "4", p(1, 1)]
CASES = cases_with_stones(45, 801) + [ONE_PLACE, ON_STRETCH, THREE_PLACES, NOTHING, FIVE, BOX]


def square_of(wide, way):
    return Fraction(wide * wide) / (way[0] * way[0] + way[1] * way[1])


def side_ways(one):
    """The outward directions of the sides of a polygon, in order."""
    corners = [numbers(corner) for corner in one.corners]
    return [lowest(by - ay, ax - bx) for (ax, ay), (bx, by) in zip(corners, corners[1:] + corners[:1])]


def gap_of(one):
    """The least square of a breadth over all directions at right angles to two corners."""
    places = [numbers(corner) for corner in one.corners]
    ways = {lowest(by - ay, ax - bx) for ax, ay in places for bx, by in places if (ax, ay) != (bx, by)}
    return min([square_of(breadth(one, way), way) for way in ways], default=0)


def least_let(case, way):
    """The least breadth of a stone that fits along a direction."""
    return max(0, greatest_least(lot_of(case), way) - least_greatest(lot_of(case), way))


def least_gap_of(case):
    lot = lot_of(case)
    return min(square_of(least_let(case, way), way) for way in critical(lot, lot))


class LeastBreadth(unittest.TestCase):
    def test_places_and_stretches(self):
        self.assertEqual(least_breadth(patch=POINT), ((1, 0), r(0)))
        self.assertEqual(least_breadth(STRETCH), ((1, 2), r(0)))
        self.assertEqual(least_breadth(UPRIGHT), ((-1, 0), r(0)))
        self.assertEqual(least_breadth(patch((0, 0), (3, 0))), ((0, 1), r(0)))
        self.assertEqual(least_breadth(patch((0, 0), (2, 2))), ((-1, 1), r(0)))

    def test_the_first_of_sides_with_the_same_square(self):
        self.assertEqual(least_breadth(SQUARE), ((0, -1), r(4)))
        self.assertEqual(least_breadth(patch((0, 0), (1, -1), (2, 0), (1, 1))), ((-1, -1), r(2)))
        self.assertEqual(least_breadth(patch((0, 0), (4, 0), (4, 1), (0, 1))), ((0, -1), r(1)))
        self.assertEqual(least_breadth(patch((0, 0), (1, 0), (1, 4), (0, 4))), ((1, 0), r(1)))
        self.assertEqual(least_breadth(TRIANGLE), ((3, 4), r(Fraction(144, 25))))
        # The second side and the third have the same square.
        self.assertEqual(least_breadth(patch((-1, 0), (1, 0), (0, 5))), ((5, 1), r(Fraction(100, 26))))

    def test_wholly(self):
        for one in SHAPES + some_patches(802, 80) + [bow(7), bow(40), HEXAGON]:
            told = least_breadth(one)
            self.assertEqual(number(told[1]), gap_of(one))
            if len(one) > 2:
                squares = [square_of(breadth(one, way), way) for way in side_ways(one)]
                self.assertEqual(told[0], side_ways(one)[squares.index(min(squares))])

    def test_over_all_directions(self):
        picks = source(803)
        for one in SHAPES + some_patches(804, 20):
            least = number(least_breadth(one)[1])
            for _ in range(20):
                way = lowest(picks.randint(-50, 50), picks.choice([-1, 1]) * picks.randint(1, 50))
                self.assertGreaterEqual(square_of(breadth(one, way), way), least)

    def test_led_along(self):
        for one in SHAPES + some_patches(805, 20):
            square = number(least_breadth(one)[1])
            self.assertEqual(least_breadth(shift_patch(one, p(3, "-1/2"))), least_breadth(one))
            for led, size in ((turn_patch(one), 1), (mirror_patch(one), 1), (grow_patch(one, r("3/2")), Fraction(9, 4))):
                self.assertEqual(number(least_breadth(led)[1]), square * size)

    def test_many_corners(self):
        self.assertEqual(number(least_breadth(bow(400))[1]), gap_of_bow(400))


def gap_of_bow(many):
    return min(square_of(max(way[0] * k + way[1] * k * k for k in range(many)) - min(way[0] * k + way[1] * k * k for k in range(many)), way)
               for way in [(1, 0), (many - 1, -1)] + [(2 * k + 1, -1) for k in range(many - 1)])


class Ranges(unittest.TestCase):
    def test_example(self):
        self.assertEqual(gap_range(case=FIVE), (r("4/5"), r(4)))
        self.assertEqual(least_breadth(FIVE.whole), ((0, -1), r(4)))
        told = least_gap(FIVE)
        self.assertEqual((told.square, told.direction in ((1, 2), (-1, -2))), (r("4/5"), True))

    def test_against_all_critical_directions(self):
        seen = set()
        for case in CASES:
            least, most = map(number, gap_range(case))
            self.assertEqual(most, gap_of(case.whole))
            self.assertEqual(least, least_gap_of(case))
            seen.add((least == 0, most == 0, least == most))
        self.assertLessEqual({(True, True, True), (True, False, False), (False, False, False)}, seen)

    def test_no_stone_that_fits_is_outside(self):
        picks = source(806)
        for case in CASES:
            least, most = map(number, gap_range(case))
            for stone in stones_in(case, picks):
                self.assertTrue(least <= gap_of(stone) <= most)

    def test_some(self):
        self.assertEqual(gap_range(ONE_PLACE), (r(0), r(0)))
        self.assertEqual(gap_range(ON_STRETCH), (r(0), r(0)))
        self.assertEqual(gap_range(NOTHING), (r(0), r(18 * 18)))
        self.assertEqual(gap_range(BOX), (r(0), r(4)))
        # All stones have three places.
        self.assertEqual(gap_range(THREE_PLACES)[0], r(8))
        self.assertEqual(gap_range(Case(TABLE, [meets((0, 0)), meets((4, 0)), meets((0, 3))]))[0], r(Fraction(144, 25)))

    def test_least_gaps(self):
        for case in CASES:
            told = least_gap(case=case)
            self.assertIs(type(told), Gap)
            self.assertEqual(number(told.square), least_gap_of(case))
            self.assertIs(type(told.direction), tuple)
            self.assertIs(type(told.stone), Patch)
            self.assertTrue(fits(case, told.stone))
            self.assertEqual(square_of(breadth(told.stone, told.direction), told.direction), number(told.square))
            self.assertIsNone(gap_fault(case=case, gap=told))

    def test_led_along(self):
        for case in CASES[::3]:
            least, most = map(number, gap_range(case))
            for led, size in ((case.shifted(p("7/3", -1)), 1), (case.turned(), 1), (case.mirrored(), 1), (case.grown(r("5/2")), Fraction(25, 4))):
                self.assertEqual(tuple(map(number, gap_range(led))), (least * size, most * size))
                self.assertIsNone(gap_fault(led, least_gap(led)))

    def test_no_stones(self):
        for case in NO_STONES:
            check_errors(self, [(lambda: gap_range(case), NoStones), (lambda: least_gap(case), NoStones),
                                (lambda: gap_fault(case, Gap(None, None, None)), NoStones)])


class GapFault(unittest.TestCase):
    def fault(self, square=None, way=None, stone=None):
        right = least_gap(FIVE)
        return gap_fault(FIVE, Gap(square or right.square, way or right.direction, stone or right.stone))

    def test_right_ones(self):
        right = least_gap(FIVE)
        x, y = right.direction
        self.assertIsNone(self.fault())
        self.assertIsNone(self.fault(way=[-x, -y]))
        # Any stone that fits with this breadth will do.
        whole = {self.fault(stone=stone) for stone in stones_in(FIVE, source(807), 40)}
        self.assertLessEqual({"stone"}, whole)
        self.assertIsNone(self.fault(stone=stone_of_breadth(FIVE, right.direction, r(breadth(right.stone, right.direction)))))

    def test_square(self):
        for square in [thing for thing in JUNK if thing] + [1, r("4/6"), r(4), [4, 5], (8, 10), (4.0, 5), r("-4/5"), r("5/4")]:
            self.assertEqual(self.fault(square), "square")
            self.assertEqual(self.fault(square, (2, 4), 1), "square")
        self.assertEqual(gap_fault(FIVE, Gap(None, None, None)), "square")
        self.assertEqual(gap_fault(ONE_PLACE, Gap((False, 1), (1, 0), ONE_PLACE.whole)), "square")
        self.assertEqual(gap_fault(ONE_PLACE, Gap((0, True), (1, 0), ONE_PLACE.whole)), "square")

    def test_direction(self):
        for way in NO_WAYS + JUNK:
            self.assertEqual(gap_fault(FIVE, Gap(r("4/5"), way, least_gap(FIVE).stone)), "direction")
            self.assertEqual(gap_fault(FIVE, Gap(r("4/5"), way, None)), "direction")

    def test_stone(self):
        right = least_gap(FIVE)
        wrong = JUNK + [right.stone.corners, [right.stone], POINT, FIVE.whole, patch((0, 0), (4, 2)), shift_patch(right.stone, p(0, "1/9"))]
        for stone in wrong:
            self.assertEqual(gap_fault(FIVE, Gap(right.square, right.direction, stone)), "stone")
        for way in DIRECTIONS:
            if square_of(breadth(right.stone, way), way) != Fraction(4, 5):
                self.assertEqual(self.fault(way=way), "stone")

    def test_any_direction_and_stone(self):
        for way in DIRECTIONS:
            self.assertIsNone(gap_fault(ONE_PLACE, Gap(r(0), way, ONE_PLACE.whole)))
        self.assertIsNone(gap_fault(NOTHING, Gap(r(0), (0, 1), patch((0, 0), (3, 0)))))
        self.assertEqual(gap_fault(NOTHING, Gap(r(0), (1, 0), patch((0, 0), (3, 0)))), "stone")
        self.assertEqual(gap_fault(NOTHING, Gap(r(0), (0, 1), patch((0, 0), (10, 0)))), "stone")

    def test_it_is_the_result(self):
        check_result(self, Gap, "square", "direction", "stone")


class Openings(unittest.TestCase):
    def test_at_just_below_and_above_both_ends(self):
        lone = Case(TABLE, [ruler(0, -1, -3), ruler(0, 1, 9), ruler(1, 0, 6), ruler(-1, 0, -4),
                            meets((4, 3)), meets((6, 3)), meets((4, 9)), meets((6, 9))])
        self.assertEqual(gap_range(lone), (r(4), r(4)))
        for breadth_told, due in ((2, "always"), (2 - NEAR, "never"), (2 + NEAR, "always"), (0, "never")):
            self.assertEqual(goes_through(case=lone, breadth=r(breadth_told)), due)
        wide = Case(table(0, 0, 6, 9), [meets((0, 0)), meets((0, 2)), meets((6, 0)), meets((6, 2))])
        self.assertEqual(gap_range(wide), (r(4), r(36)))
        for breadth_told, due in ((2 - NEAR, "never"), (2, "maybe"), (2 + NEAR, "maybe"), (6 - NEAR, "maybe"), (6, "always"), (6 + NEAR, "always")):
            self.assertEqual(goes_through(wide, r(breadth_told)), due)
        for case, told, due in ((BOX, 0, "maybe"), (BOX, 2, "always"), (BOX, 2 - NEAR, "maybe"), (ONE_PLACE, 0, "always"), (NOTHING, 0, "maybe"),
                                (NOTHING, 18, "always"), (NOTHING, "359/20", "maybe"), (FIVE, 2, "always"), (FIVE, "8/9", "never"), (FIVE, "9/10", "maybe")):
            self.assertEqual(goes_through(case, r(told)), due)

    def test_wholly(self):
        seen = set()
        for case in CASES:
            least, most = map(number, gap_range(case))
            for told in (0, Fraction(1, 3), 1, 2, Fraction(5, 2), 4, 7, 20):
                verdict = goes_through(case, r(told))
                self.assertEqual(verdict, "always" if most <= told * told else "maybe" if least <= told * told else "never")
                seen.add(verdict)
        self.assertEqual(seen, {"always", "maybe", "never"})

    def test_bad_breadth_ahead_of_no_stones(self):
        rows = [(lambda case=case, told=told: goes_through(case, told), BadBreadth) for case in (FIVE, NO_STONES[0]) for told in NO_BREADTHS]
        rows += [(lambda case=case, told=told: goes_through(case, r(told)), NoStones) for case in NO_STONES for told in (0, 1)]
        check_errors(self, rows)


class ManyFigures(unittest.TestCase):
    def test_twelve_facts(self):
        for figures, every in ((60, 1), (150, 0), (300, 3)):
            case = twelve_facts(figures, every)
            told = least_gap(case)
            self.assertIsNone(gap_fault(case, told))
            self.assertEqual(gap_range(case)[0], told.square)
            self.assertTrue(fits(case, told.stone))
            self.assertEqual(goes_through(case, r(18)), "always")


if __name__ == "__main__":
    unittest.main()
