"""[5.8] and [5.9] Stones of each area between the least and the greatest."""

import unittest
from fractions import Fraction

from feltstone.areas import greatest_area, least_area, least_stone
from feltstone.between import area_verdict, growing_stones, stone_of_area, sure_area
from feltstone.cases import Case
from feltstone.errors import BadAmount, NotMet
from feltstone.patches import Patch
from feltstone.sure import sure_places
from tests.made_cases import BOX, FIVE, NOTHING, TABLE, fits, stones_in, twelve_facts
from tests.makers import holds, number, p, patch, r, ruler, source
from tests.test_areas import area
from tests.test_kept import (
    AT_CORNERS, BARE_PLACE, ELEVEN, ONE_PLACE, ONE_RULER, STRETCH, TEN, TOUCHED, TRIANGLE, TWELVE, WHOLE_STRETCH, ruled_cases,
)
from tests.test_reaches import NEAR, NO_AMOUNTS

CASES = ruled_cases(50, 361) + [TEN, ELEVEN, TWELVE]


class Growing(unittest.TestCase):
    def test_wholly(self):
        for case in CASES:
            told = list(growing_stones(case=case))
            self.assertTrue(all(type(stone) is Patch and fits(case, stone) for stone in told))
            self.assertEqual(told[0].twice_area, least_area(case).twice)
            self.assertEqual(told[-1], case.whole)
            for one, two in zip(told, told[1:]):
                self.assertTrue(all(holds(two.corners, corner) for corner in one.corners))
                more = [k for k, corner in enumerate(case.whole.corners) if corner in two.corners and corner not in one.corners]
                self.assertEqual(len(more), 1)
                self.assertLessEqual(area(one), area(two))

    def test_the_other_corners_ascend(self):
        for case in CASES:
            told = list(growing_stones(case))
            first = [k for k, corner in enumerate(case.whole.corners) if corner in told[0].corners]
            others = [k for k in range(len(case.whole)) if k not in first]
            self.assertEqual(len(told), len(others) + 1)
            for k, stone in enumerate(told):
                due = sorted(first + others[:k])
                self.assertEqual(sorted(stone.corners), sorted(case.whole.corners[one] for one in due))

    def test_some(self):
        self.assertEqual(list(growing_stones(FIVE)), [patch((0, 2), (4, 0), (4, 1)), patch((0, 0), (4, 0), (4, 1), (0, 2)), FIVE.whole])
        self.assertEqual(list(growing_stones(ONE_PLACE)), [patch((1, 2))])
        self.assertEqual(list(growing_stones(WHOLE_STRETCH)), [WHOLE_STRETCH.whole])
        self.assertEqual([len(stone) for stone in growing_stones(NOTHING)], [1, 2, 3, 4])

    def test_the_first_ones_can_be_taken_alone(self):
        self.assertEqual(next(growing_stones(FIVE)), patch((0, 2), (4, 0), (4, 1)))


class StoneOfArea(unittest.TestCase):
    def test_each_area(self):
        for case in CASES:
            least, most = number(least_area(case).twice), number(greatest_area(case))
            tops = [area(stone) for stone in growing_stones(case)]
            shares = [least + (most - least) * Fraction(k, 7) for k in range(8)] + tops + [(one + most) / 2 for one in tops]
            for twice in shares:
                stone = stone_of_area(case=case, twice=r(twice))
                self.assertIs(type(stone), Patch)
                self.assertTrue(fits(case, stone))
                self.assertEqual(area(stone), twice)

    def test_just_outside(self):
        for case in CASES:
            least, most = number(least_area(case).twice), number(greatest_area(case))
            for twice in (least - NEAR, most + NEAR, least - 5, most + 5):
                with self.assertRaises(NotMet):
                    stone_of_area(case, r(twice))
        for case in (ONE_PLACE, BARE_PLACE, STRETCH):
            self.assertTrue(fits(case, stone_of_area(case, r(0))))
            for twice in (NEAR, -NEAR):
                with self.assertRaises(NotMet):
                    stone_of_area(case, r(twice))

    def test_amounts(self):
        for call in (stone_of_area, area_verdict):
            for twice in NO_AMOUNTS:
                with self.assertRaises(BadAmount):
                    call(FIVE, twice)


class AreaVerdict(unittest.TestCase):
    def test_wholly(self):
        for case in CASES:
            least, most = number(least_area(case).twice), number(greatest_area(case))
            for twice in {least - NEAR, least, least + NEAR, (least + most) / 2, most - NEAR, most, most + NEAR, most + 9}:
                told = area_verdict(case=case, twice=r(twice))
                self.assertIs(type(told), tuple)
                due = "always" if most <= twice else "never" if least > twice else "maybe"
                self.assertEqual((len(told), told[0]), (3, due))
                self.assertEqual((told[1] is None, told[2] is None), (due == "never", due == "always"))
                if told[1] is not None:
                    self.assertTrue(fits(case, told[1]))
                    self.assertLessEqual(area(told[1]), twice)
                if told[2] is not None:
                    self.assertTrue(fits(case, told[2]))
                    self.assertGreater(area(told[2]), twice)

    def test_some(self):
        self.assertEqual(area_verdict(FIVE, r(15))[0], "always")
        self.assertEqual(area_verdict(FIVE, r(4))[0], "maybe")
        self.assertEqual(area_verdict(FIVE, r("399/100"))[0], "never")
        self.assertEqual(area_verdict(ONE_PLACE, r(0))[0], "always")
        self.assertEqual(area_verdict(ONE_PLACE, r(-1))[0], "never")


class SureArea(unittest.TestCase):
    def test_wholly(self):
        picks = source(362)
        for case in CASES:
            told, sure = sure_area(case=case), sure_places(case)
            self.assertEqual(told, r(0) if sure is None else r(area(sure)))
            least = least_area(case).twice
            self.assertLessEqual(number(told), number(least))
            if number(least) > 0:
                self.assertIs(told == least, least_stone(case) is not None)
            self.assertTrue(all(area(stone) >= number(told) for stone in stones_in(case, picks, 3)))

    def test_some(self):
        self.assertEqual(sure_area(NOTHING), r(0))
        self.assertEqual(sure_area(BOX), r(0))
        self.assertEqual(sure_area(AT_CORNERS), r(0))
        three = Case(TABLE, [ruler(1, 0, 9), ruler(1, 1, 18), ruler(-1, -1, 18), ruler(-1, 1, 18), ruler(0, -1, 9)])
        self.assertEqual(least_stone(three), patch((-9, -9), (9, 9), (-9, 9)))
        self.assertEqual(sure_area(three), r(324))
        self.assertGreater(number(sure_area(FIVE)), 0)
        for case in (TOUCHED, TRIANGLE, ONE_RULER):
            self.assertEqual(sure_area(case), r(0))

    def test_led_along(self):
        for case in CASES[:20] + [FIVE]:
            told = number(sure_area(case))
            for other, size in ((case.shifted(p(1, "1/3")), 1), (case.turned(), 1), (case.mirrored(), 1), (case.grown(r(2)), 4)):
                self.assertEqual(number(sure_area(other)), told * size)


class ManyFigures(unittest.TestCase):
    def test_twelve_facts(self):
        for figures in (60, 300):
            case = twelve_facts(figures, 0)
            least, most = number(least_area(case).twice), number(greatest_area(case))
            twice = r((2 * least + most) / 3)
            stone = stone_of_area(case, twice)
            self.assertTrue(fits(case, stone))
            self.assertEqual(stone.twice_area, twice)
            self.assertEqual(area_verdict(case, twice)[0], "maybe")
            self.assertLess(number(sure_area(case)), least)
            self.assertEqual(list(growing_stones(case))[-1], case.whole)


if __name__ == "__main__":
    unittest.main()
