"""[3.1], [3.3] Lots along a direction, and critical directions."""

import unittest

from feltstone.critical import critical_for, greatest_low, high_places, least_reach, low_places
from feltstone.errors import BadDirection, BadLots
from feltstone.facts import Meets
from feltstone.places import order_round, turn_of
from tests.made_cases import (
    BOX, FIVE, TABLE, are_parted, cases_with_stones, critical, greatest_least, least_greatest, lot_of, some_lots,
)
from tests.makers import (
    DIRECTIONS, HEXAGON, JUNK, POINT, SHAPES, SQUARE, STRETCH, TRIANGLE, amount, number, p, patch, ps,
)

AXES = ((1, 0), (0, 1), (-1, 0), (0, -1))
NO_LOTS = JUNK + [1, [], (), SQUARE, [None], [SQUARE, None], (SQUARE, SQUARE.corners), [TABLE], [Meets(SQUARE)], [BOX],
                  {SQUARE.corners: SQUARE}, (one for one in SHAPES), [[SQUARE]], SQUARE.corners, "SQUARE", [(-1, SQUARE)]]
NO_WAYS = [(0, 0), (2, 4), (1, 0, 0), (True, 0), (1.0, 0), "10", p(1, 0), 1, (1,), [], None]
ALONG = [least_reach, greatest_low, low_places, high_places]


def all_lots():
    lots = [[SQUARE], (TRIANGLE,), SHAPES, tuple(SHAPES), [SQUARE, SQUARE], [POINT, STRETCH, POINT]]
    return lots + [lot for couple in some_lots(161, 20) for lot in couple] + [lot_of(FIVE)]


class Along(unittest.TestCase):
    def test_amounts(self):
        for lot in all_lots():
            for way in DIRECTIONS:
                self.assertEqual(number(least_reach(patches=lot, direction=way)), greatest_least(lot, way))
                self.assertEqual(number(greatest_low(patches=lot, direction=way)), least_greatest(lot, way))

    def test_amounts_are_ratios(self):
        lot = [patch((0, 0), ("1/2", "1/3")), patch((0, "1/6"))]
        self.assertEqual(least_reach(lot, (3, 2)), (1, 3))
        self.assertEqual(greatest_low(lot, (0, 1)), (1, 6))
        self.assertEqual(greatest_low(lot, (2, 3)), (1, 2))
        self.assertEqual(least_reach(lot, (-2, -3)), (-1, 2))

    def test_example(self):
        lot = lot_of(FIVE)
        self.assertEqual([number(greatest_low([one], (1, 2))) for one in lot], [7, 6, 7, 4, 4, 7])
        self.assertEqual(greatest_low(lot, (1, 2)), (4, 1))

    def test_greatest_low_is_least_reach_turned_about(self):
        for lot in all_lots():
            for x, y in DIRECTIONS:
                top, bottom = least_reach(lot, (-x, -y))
                self.assertEqual(greatest_low(lot, (x, y)), (-top, bottom))

    def test_places(self):
        for lot in all_lots():
            for way in DIRECTIONS:
                lows, highs = low_places(patches=lot, direction=way), high_places(patches=lot, direction=way)
                for told, choose in ((lows, min), (highs, max)):
                    self.assertIs(type(told), tuple)
                    self.assertEqual(told, tuple(choose(one.corners, key=lambda place: amount(way, place)) for one in lot))

    def test_the_first_of_several_corners(self):
        lot = [SQUARE, patch((0, 0), (0, 5)), patch((0, 0), (3, 3))]
        self.assertEqual(low_places(lot, (1, 0)), ps((0, 0), (0, 0), (0, 0)))
        self.assertEqual(high_places(lot, (1, 0)), ps((2, 0), (0, 0), (3, 3)))
        self.assertEqual(low_places(lot, (-1, 0)), ps((2, 0), (0, 0), (3, 3)))
        self.assertEqual(high_places(lot, (-1, 0)), ps((0, 0), (0, 0), (0, 0)))
        self.assertEqual(high_places(lot, (0, 1)), ps((2, 2), (0, 5), (3, 3)))
        self.assertEqual(low_places(lot, (0, -1)), ps((2, 2), (0, 5), (3, 3)))
        self.assertEqual(low_places(lot, (0, 1)), ps((0, 0), (0, 0), (0, 0)))
        self.assertEqual(high_places(lot, (1, -1)), ps((2, 0), (0, 0), (0, 0)))
        self.assertEqual(low_places(lot, (1, -1)), ps((0, 2), (0, 5), (0, 0)))

    def test_the_same_patch_twice_and_lists(self):
        self.assertEqual(low_places([SQUARE, TRIANGLE, SQUARE], [0, 1]), ps((0, 0), (0, 0), (0, 0)))
        self.assertEqual(high_places((SQUARE, SQUARE), [1, 1]), ps((2, 2), (2, 2)))
        self.assertEqual(least_reach([SQUARE, SQUARE], [1, 1]), (0, 1))
        self.assertEqual(greatest_low((SQUARE, SQUARE), [1, 1]), (4, 1))

    def test_no_lots(self):
        for lot in NO_LOTS:
            for call in ALONG:
                for way in ((1, 0), None, (2, 4)):
                    with self.assertRaises(BadLots) as caught:
                        call(lot, way)
                    self.assertEqual(caught.exception.what, "patches")

    def test_no_direction(self):
        for way in NO_WAYS:
            for call in ALONG:
                with self.assertRaises(BadDirection):
                    call(SHAPES, way)

    def test_nothing_is_changed(self):
        lot, way = [SQUARE, STRETCH], [1, 1]
        for call in ALONG:
            call(lot, way)
        self.assertEqual((lot, way), ([SQUARE, STRETCH], [1, 1]))


class Critical(unittest.TestCase):
    def test_single_places(self):
        one, two = [patch((0, 0))], [patch((2, 1))]
        told = ((1, 0), (0, 1), (-1, 2), (-1, 0), (0, -1), (1, -2))
        self.assertEqual(critical_for(patches=one, others=two), told)
        self.assertEqual(critical_for(two, one), told)
        self.assertEqual(critical_for([patch((0, 0))], (patch((0, 5)),)), AXES)
        self.assertEqual(critical_for([patch((0, 0))], [patch((-5, 0))]), AXES)

    def test_equal_corners_give_none(self):
        self.assertEqual(critical_for([POINT], [POINT]), AXES)
        self.assertEqual(critical_for([POINT, POINT], (POINT,)), AXES)

    def test_doubled_and_opposite_ones_come_once(self):
        one = [patch((0, 0)), patch((2, 2)), patch((0, 0))]
        two = [patch((1, 1)), patch((3, 3)), patch((-1, -1))]
        self.assertEqual(critical_for(one, two), ((1, 0), (0, 1), (-1, 1), (-1, 0), (0, -1), (1, -1)))

    def test_corners_of_one_lot_are_not_compared(self):
        self.assertEqual(critical_for([patch((0, 0), (5, 3))], [patch((0, 7))]),
                         ((1, 0), (4, 5), (0, 1), (-1, 0), (-4, -5), (0, -1)))
        self.assertNotIn((-3, 5), critical_for([patch((0, 0))], [patch((1, 1), (6, 4))]))
        self.assertIn((-3, 5), critical_for([patch((0, 0), (5, 3))], [patch((0, 0), (5, 3))]))

    def test_against_all_differences(self):
        for one, two in list(some_lots(162, 60)) + [(SHAPES, [HEXAGON]), ([POINT], SHAPES), (SHAPES, SHAPES)]:
            told = critical_for(one, two)
            self.assertIs(type(told), tuple)
            self.assertEqual(told, tuple(critical(one, two)))
            self.assertEqual(told, order_round(told))
            self.assertTrue(all(turn_of(way, behind) > 0 for way, behind in zip(told, told[1:] + told[:1])))

    def test_truth_is_the_same_between_neighbours(self):
        for one, two in some_lots(163, 40):
            told = critical_for(one, two)
            for (x, y), (far_x, far_y) in zip(told, told[1:] + told[:1]):
                truths = {are_parted(one, two, (x * share + far_x * other, y * share + far_y * other))
                          for share, other in ((1, 1), (1, 30), (30, 1), (2, 5), (1000, 1))}
                self.assertEqual(len(truths), 1)

    def test_no_lots(self):
        for lot in NO_LOTS:
            for first, second, what in ((lot, [SQUARE], "patches"), (lot, lot, "patches"), (lot, None, "patches"),
                                        ([SQUARE], lot, "others")):
                with self.assertRaises(BadLots) as caught:
                    critical_for(first, second)
                self.assertEqual(caught.exception.what, what)

    def test_numbers_of_many_figures(self):
        huge = 10 ** 299 + 7
        told = critical_for([patch((0, 0))], [patch((huge, 1)), patch((1, huge))])
        self.assertEqual(told, ((1, 0), (0, 1), (-1, huge), (-huge, 1), (-1, 0), (0, -1), (1, -huge), (huge, -1)))

    def test_many_cases(self):
        for case in cases_with_stones(12):
            lot = lot_of(case)
            self.assertEqual(critical_for(lot, lot), tuple(critical(lot, lot)))


if __name__ == "__main__":
    unittest.main()
