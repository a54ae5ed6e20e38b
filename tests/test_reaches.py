"""[4.1] to [4.4] and [4.13] Reaches and breadths of the stones that fit."""

import unittest
from fractions import Fraction

from feltstone.cases import Case
from feltstone.errors import BadAmount, BadDirection, NoStones, NotMet
from feltstone.patches import Patch, hull_of
from feltstone.reaches import (
    breadth_range, least_reaching, reach_range, stone_of_breadth, stone_of_reach, sure_span,
)
from tests.made_cases import (
    BOX, FIVE, NOTHING, SIDES, TABLE, cases_with_stones, critical, fits, greatest_least, least_greatest, lot_of, stones_in,
    twelve_facts,
)
from tests.makers import DIRECTIONS, JUNK, amount, holds, meets, number, p, patch, r, ruler, source, within
from tests.test_critical import NO_WAYS
from tests.test_sure import NO_STONES

NO_AMOUNTS = JUNK + [1, [4, 1], (2, 4), (1, 0), (True, 1), (1, True), (1, 2, 3), ("1", 2), ((1, 1), (1, 1))]
NEAR = Fraction(1, 10 ** 30)
WAYS = [(1, 0), (0, 1), (-1, -1), (2, 1), (-1, 3), (3, -2)]
TWO_ENDS = Case(TABLE, [meets((0, 0), (1, 1)), meets((6, 0), (7, 0), (7, 1))])


def reach(stone, way):
    return max(amount(way, corner) for corner in stone.corners)


def low(stone, way):
    return min(amount(way, corner) for corner in stone.corners)


def shares(ends):
    """Both ends of a range and amounts between."""
    one, two = map(number, ends)
    return [one + (two - one) * share for share in (0, Fraction(1, 7), Fraction(1, 2), Fraction(99, 100), 1)]


class Reaches(unittest.TestCase):
    def test_example(self):
        self.assertEqual(reach_range(case=FIVE, direction=(1, 1)), (r(5), r(5)))
        self.assertEqual(reach_range(FIVE, [1, 2]), (r(6), r(7)))
        self.assertEqual(breadth_range(case=FIVE, direction=(1, 1)), (r(3), r(5)))
        self.assertEqual(sure_span(case=FIVE, direction=[1, 1]), (r(2), r(5)))
        self.assertEqual(reach_range(BOX, (1, 1)), (r(4), r(6)))

    def test_ranges_are_as_told(self):
        for case in cases_with_stones(40, 311):
            lot = lot_of(case)
            for way in WAYS + critical(lot, lot)[:12]:
                most, least = greatest_least(lot, way), least_greatest(lot, way)
                self.assertEqual(reach_range(case, way), (r(most), r(reach(case.whole, way))))
                broad = r(reach(case.whole, way) - low(case.whole, way))
                self.assertEqual(breadth_range(case, way), (r(max(0, most - least)), broad))
                self.assertEqual(sure_span(case, way), (r(least), r(most)) if least <= most else None)

    def test_no_stone_is_outside(self):
        picks = source(312)
        for case in cases_with_stones(30, 313):
            for way in WAYS:
                reaches, breadths = reach_range(case, way), breadth_range(case, way)
                span = sure_span(case, way)
                for stone in stones_in(case, picks):
                    self.assertTrue(number(reaches[0]) <= reach(stone, way) <= number(reaches[1]))
                    broad = reach(stone, way) - low(stone, way)
                    self.assertTrue(number(breadths[0]) <= broad <= number(breadths[1]))
                    if span is not None:
                        self.assertTrue(low(stone, way) <= number(span[0]) and number(span[1]) <= reach(stone, way))

    def test_stones_of_each_reach(self):
        for case in cases_with_stones(30, 314) + [FIVE, TWO_ENDS]:
            for way in WAYS:
                for told in shares(reach_range(case, way)):
                    stone = stone_of_reach(case=case, direction=way, amount=r(told))
                    self.assertIs(type(stone), Patch)
                    self.assertTrue(fits(case, stone))
                    self.assertEqual(reach(stone, way), told)

    def test_stones_of_each_breadth(self):
        for case in cases_with_stones(30, 315) + [FIVE, TWO_ENDS]:
            for way in WAYS:
                for told in shares(breadth_range(case, way)):
                    stone = stone_of_breadth(case=case, direction=way, amount=r(told))
                    self.assertIs(type(stone), Patch)
                    self.assertTrue(fits(case, stone))
                    self.assertEqual(reach(stone, way) - low(stone, way), told)

    def test_directions_as_lists(self):
        self.assertEqual(reach(stone_of_reach(FIVE, [1, 2], r("13/2")), (1, 2)), Fraction(13, 2))
        stone = stone_of_breadth(FIVE, [1, 1], r("7/2"))
        self.assertEqual(reach(stone, (1, 1)) - low(stone, (1, 1)), Fraction(7, 2))

    def test_a_breadth_from_0_on(self):
        self.assertEqual(breadth_range(NOTHING, (1, 1)), (r(0), r(36)))
        self.assertEqual(breadth_range(SIDES, (0, 1)), (r(0), r(4)))
        self.assertEqual(breadth_range(TWO_ENDS, (0, 1))[0], r(0))
        stone = stone_of_breadth(TWO_ENDS, (0, 1), r(0))
        self.assertTrue(fits(TWO_ENDS, stone))
        self.assertEqual(reach(stone, (0, 1)), low(stone, (0, 1)))
        self.assertEqual(breadth_range(TWO_ENDS, (1, 0)), (r(5), r(18)))

    def test_a_least_breadth_of_just_0(self):
        case = Case(TABLE, [meets((0, 0), (0, 3)), meets((5, 3), (5, 7))])
        self.assertEqual(breadth_range(case, (0, 1)), (r(0), r(18)))
        self.assertEqual(sure_span(case, (0, 1)), (r(3), r(3)))
        stone = stone_of_breadth(case, (0, 1), r(0))
        self.assertEqual((reach(stone, (0, 1)), low(stone, (0, 1))), (3, 3))

    def test_spans(self):
        self.assertIsNone(sure_span(NOTHING, (1, 0)))
        self.assertEqual(sure_span(TWO_ENDS, (1, 0)), (r(1), r(6)))
        self.assertIsNone(sure_span(Case(TABLE, [meets((0, 0), (0, 3)), meets((5, 2), (5, 7))]), (0, 1)))
        self.assertEqual(sure_span(BOX, (1, 0)), (r(0), r(4)))
        self.assertEqual(sure_span(Case(TABLE, [meets((1, 2))]), (3, -1)), (r(1), r(1)))

    def test_a_whole_of_one_place(self):
        case = Case(TABLE, [within(1, 0, 1), within(-1, 0, -1), ruler(0, 1, 2), within(0, -1, -2)])
        for way in WAYS:
            at = r(way[0] + 2 * way[1])
            self.assertEqual(reach_range(case, way), (at, at))
            self.assertEqual(breadth_range(case, way), (r(0), r(0)))
            self.assertEqual(sure_span(case, way), (at, at))
            self.assertEqual(stone_of_reach(case, way, at), patch((1, 2)))
            self.assertEqual(stone_of_breadth(case, way, r(0)), patch((1, 2)))

    def test_led_along(self):
        for case in cases_with_stones(15, 316):
            for x, y in WAYS:
                ranges = [reach_range(case, (x, y)), breadth_range(case, (x, y)), sure_span(case, (x, y))]
                self.assertEqual(ranges, [call(case.turned(), (-y, x)) for call in (reach_range, breadth_range, sure_span)])
                self.assertEqual(ranges, [call(case.mirrored(), (-x, y)) for call in (reach_range, breadth_range, sure_span)])
                moved = case.shifted(p(2, "-1/3"))
                self.assertEqual(breadth_range(moved, (x, y)), ranges[1])
                step = 2 * x - Fraction(y, 3)
                self.assertEqual(reach_range(moved, (x, y)), tuple(r(number(end) + step) for end in ranges[0]))
                grown = case.grown(r("3/2"))
                for call, ends in zip((reach_range, breadth_range, sure_span), ranges):
                    self.assertEqual(call(grown, (x, y)), ends and tuple(r(number(end) * 3 / 2) for end in ends))


class LeastReaching(unittest.TestCase):
    def test_a_choice(self):
        for case in cases_with_stones(40, 317):
            lot = lot_of(case)
            for way in DIRECTIONS:
                told = least_reaching(case=case, direction=way)
                self.assertIs(type(told), tuple)
                self.assertEqual(len(told), len(lot))
                most = greatest_least(lot, way)
                for place, one in zip(told, lot):
                    self.assertIs(type(place), tuple)
                    self.assertTrue(holds(one.corners, place))
                    self.assertLessEqual(amount(way, place), most)
                stone = hull_of(told)
                self.assertTrue(fits(case, stone))
                self.assertEqual(reach(stone, way), most)

    def test_as_list(self):
        self.assertEqual(least_reaching(FIVE, [1, 2]), least_reaching(FIVE, (1, 2)))


class Errors(unittest.TestCase):
    OF_AMOUNTS = [(stone_of_reach, reach_range), (stone_of_breadth, breadth_range)]

    def test_directions(self):
        for call in (reach_range, least_reaching, breadth_range, sure_span):
            for case in NO_STONES + [FIVE]:
                for way in NO_WAYS:
                    with self.assertRaises(BadDirection):
                        call(case, way)
            for case in NO_STONES:
                with self.assertRaises(NoStones):
                    call(case, (1, 0))

    def test_just_outside(self):
        for call, ends in self.OF_AMOUNTS:
            for case in (FIVE, TWO_ENDS, NOTHING, BOX):
                for way in WAYS:
                    least, greatest = map(number, ends(case, way))
                    for told in (least - NEAR, greatest + NEAR, least - 100, greatest + 100):
                        with self.assertRaises(NotMet):
                            call(case, way, r(told))
        with self.assertRaises(NotMet):
            stone_of_breadth(NOTHING, (1, 0), r(-NEAR))

    def test_each_ahead_of_each_later_one(self):
        bad, far = None, r(1000)
        for call, _ in self.OF_AMOUNTS:
            for way in NO_WAYS:
                for told in (bad, far, r(1)):
                    for case in (FIVE, NO_STONES[0]):
                        with self.assertRaises(BadDirection):
                            call(case, way, told)
            for told in NO_AMOUNTS:
                for case in (FIVE, NO_STONES[0]):
                    with self.assertRaises(BadAmount):
                        call(case, (1, 0), told)
            for case in NO_STONES:
                for told in (far, r(1)):
                    with self.assertRaises(NoStones):
                        call(case, (1, 0), told)
            with self.assertRaises(NotMet):
                call(FIVE, (1, 0), far)


class ManyFigures(unittest.TestCase):
    def test_twelve_facts(self):
        for figures, every in ((300, 0), (200, 2), (200, 1)):
            case, way = twelve_facts(figures, every), (10 ** 200 + 7, -(10 ** 199))
            for call, ends in Errors.OF_AMOUNTS:
                least, greatest = map(number, ends(case, way))
                stone = call(case, way, r((least + 2 * greatest) / 3))
                self.assertTrue(all(holds(case.whole.corners, corner) for corner in stone.corners))
                self.assertTrue(fits(case, stone))


if __name__ == "__main__":
    unittest.main()
