"""[8.8] Least heights of boxes that hold some stone that fits."""

import unittest
from fractions import Fraction
from itertools import combinations

from feltstone.boxes import HoldsAll, HoldsNone, box_verdict, some_box_places
from feltstone.cases import Case
from feltstone.errors import BadBox, NoStones
from feltstone.heights import least_boxes, least_height
from tests.made_cases import (
    BOX, FIVE, NOTHING, ONE_PLACE, ON_STRETCH, SIDES, TABLE, THREE_PLACES, cases_with_stones, greatest_least, least_greatest,
    lot_of, twelve_facts,
)
from tests.makers import JUNK, meets, number, p, r, source, table, within
from tests.results import check_errors
from tests.test_boxes import CROSSED, NO_LENGTHS
from tests.test_reaches import NEAR
from tests.test_sure import NO_STONES

CASES = cases_with_stones(45, 821) + [ONE_PLACE, ON_STRETCH, THREE_PLACES, SIDES, CROSSED, NOTHING, FIVE, BOX]
WIDTHS = [0, 1, "5/2", 4, 7, 18]


def least_width(case):
    """The least breadth of the stones that fit along (1, 0)."""
    return max(0, greatest_least(lot_of(case), (1, 0)) - least_greatest(lot_of(case), (1, 0)))


class LeastHeight(unittest.TestCase):
    def test_example(self):
        few = Case(table(0, 0, 9, 9), [FIVE.facts[0], FIVE.facts[2], FIVE.facts[4]])
        self.assertEqual(least_height(case=few, width=r(4)), r(0))
        self.assertIsNone(least_height(FIVE, r(3)))
        self.assertEqual(least_height(FIVE, r(4)), r(2))

    def test_against_the_boxes(self):
        seen = set()
        for case in CASES:
            for width in WIDTHS:
                told = least_height(case, r(width))
                self.assertEqual(told is None, Fraction(width) < least_width(case))
                if told is None:
                    self.assertIs(type(box_verdict(case, r(width), r(1000))), HoldsNone)
                    seen.add(None)
                    continue
                self.assertGreaterEqual(number(told), 0)
                self.assertIsNotNone(some_box_places(case, r(width), told))
                if number(told) > 0:
                    self.assertIsNone(some_box_places(case, r(width), r(number(told) - min(NEAR, number(told)))))
                    self.assertIs(type(box_verdict(case, r(width), r(number(told) * Fraction(99, 100)))), HoldsNone)
                seen.add(number(told) > 0)
        self.assertEqual(seen, {None, True, False})

    def test_at_the_least_width_and_just_below(self):
        for case in CASES:
            width = least_width(case)
            self.assertIsNotNone(least_height(case, r(width)))
            if width > 0:
                self.assertIsNone(least_height(case, r(width - min(NEAR, width))))

    def test_of_two_or_three_patches(self):
        # Each lot of patches makes a case of its own with the same whole, told by Withins.
        for case in CASES[::2]:
            halves = [within(*fact.half[0], Fraction(*fact.half[1])) for fact in case.facts if fact.half]
            patches = [meets_of(patch) for number_told, patch in case.patches if number_told >= 0]
            if len(halves) + 3 > 12:
                continue
            for width in WIDTHS[1:4]:
                told = least_height(case, r(width))
                if told is not None:
                    heights = [least_height(Case(case.table, halves + list(lot)), r(width)) for lot in combinations(patches, min(3, len(patches)))]
                    self.assertEqual(told, max(heights, key=number))

    def test_the_whole_alone(self):
        for case in (NOTHING, Case(TABLE, [within(1, 1, 3), within(-1, 2, 5)])):
            for width in WIDTHS:
                self.assertEqual(least_height(case, r(width)), r(0))

    def test_a_greater_width_never_needs_a_greater_height(self):
        for case in CASES:
            heights = [least_height(case, r(width)) for width in WIDTHS]
            told = [number(height) for height in heights if height is not None]
            self.assertEqual(told, sorted(told, reverse=True))
            self.assertEqual(heights, [None] * (len(heights) - len(told)) + heights[len(heights) - len(told):])

    def test_the_mean_of_two_widths(self):
        picks = source(822)
        for case in CASES:
            for _ in range(4):
                one, other = least_width(case) + picks.randint(0, 5), least_width(case) + Fraction(picks.randint(0, 20), 3)
                heights = [number(least_height(case, r(width))) for width in (one, other, Fraction(one + other) / 2)]
                self.assertLessEqual(2 * heights[2], heights[0] + heights[1])

    def test_led_along(self):
        for case in CASES[::3]:
            for width in WIDTHS:
                told = least_height(case, r(width))
                self.assertEqual(least_height(case.shifted(p(3, "-1/7")), r(width)), told)
                self.assertEqual(least_height(case.mirrored(), r(width)), told)
                self.assertEqual(least_height(case.turned().turned(), r(width)), told)
                self.assertEqual(least_height(case.grown(r("3/2")), r(Fraction(width) * 3 / 2)), told and r(number(told) * 3 / 2))

    def test_some(self):
        self.assertEqual(least_height(CROSSED, r(2)), r(4))
        self.assertEqual(least_height(CROSSED, r(3)), r("5/2"))
        self.assertEqual(least_height(CROSSED, r(4)), r(1))
        self.assertEqual(least_height(CROSSED, r(9)), r(1))
        self.assertIsNone(least_height(CROSSED, r(2 - NEAR)))
        self.assertEqual(least_height(THREE_PLACES, r(4)), r(4))
        self.assertIsNone(least_height(THREE_PLACES, r("39/10")))
        self.assertIs(type(box_verdict(BOX, r(4), least_height(BOX, r(4)))), HoldsAll)
        # A place and a slanted stretch.
        slanted = Case(TABLE, [meets((0, 0)), meets((2, 1), (4, 7))])
        self.assertEqual([least_height(slanted, r(width)) for width in (1, 2, 3, 4)], [None, r(1), r(1), r(1)])
        other = Case(TABLE, [meets((0, 0)), meets((2, 7), (4, 1))])
        self.assertEqual([least_height(other, r(width)) for width in (2, 3, "7/2", 4, 5)], [r(7), r(4), r("5/2"), r(1), r(1)])

    def test_bad_box_ahead_of_no_stones(self):
        rows = [(lambda case=case, width=width: least_height(case, width), BadBox, "width") for case in (BOX, NO_STONES[0]) for width in NO_LENGTHS]
        rows += [(lambda case=case, width=width: least_height(case, r(width)), NoStones) for case in NO_STONES for width in (0, 4)]
        check_errors(self, rows)


def meets_of(one):
    return meets(*[(Fraction(*x), Fraction(*y)) for x, y in one.corners])


class LeastBoxes(unittest.TestCase):
    def test_told_twice_and_not_in_order(self):
        widths = [r(4), r(3), r(9), r(4), r(0), r("9/2")]
        self.assertEqual(list(least_boxes(case=FIVE, widths=widths)), [(r(4), r(2)), (r(9), r(2)), (r(4), r(2)), (r("9/2"), r(2))])
        self.assertEqual(list(least_boxes(CROSSED, tuple(widths))), [(r(4), r(1)), (r(3), r("5/2")), (r(9), r(1)), (r(4), r(1)), (r("9/2"), r(1))])

    def test_wholly(self):
        picks = source(823)
        for case in CASES:
            widths = [r(Fraction(picks.randint(0, 30), 4)) for _ in range(6)]
            due = [(width, least_height(case, width)) for width in widths]
            told = list(least_boxes(case, widths))
            self.assertEqual(told, [row for row in due if row[1] is not None])
            self.assertTrue(all(type(row) is tuple for row in told))

    def test_one_by_one(self):
        told = least_boxes(BOX, [r(4), r(5)])
        self.assertEqual(next(told), (r(4), r(2)))
        self.assertEqual(next(told), (r(5), r(2)))
        self.assertEqual(list(told), [])

    def test_no_widths(self):
        for widths in ((), []):
            self.assertEqual(list(least_boxes(FIVE, widths)), [])
            for case in NO_STONES:
                with self.assertRaises(NoStones):
                    next(least_boxes(case, widths))

    def test_bad_box_ahead_of_no_stones(self):
        rows = []
        for case in (BOX, NO_STONES[0]):
            rows += [(lambda case=case, widths=widths: next(least_boxes(case, widths)), BadBox, "width")
                     for widths in JUNK + [1, {r(4): r(4)}, r(4), (width for width in [r(4)])]]
            rows += [(lambda case=case, width=width: next(least_boxes(case, [r(4), width, r(5)])), BadBox, "width") for width in NO_LENGTHS]
        rows += [(lambda case=case: next(least_boxes(case, [r(4)])), NoStones) for case in NO_STONES]
        check_errors(self, rows)


class ManyFigures(unittest.TestCase):
    def test_twelve_facts(self):
        for figures, every in ((60, 1), (300, 0), (300, 2)):
            case = twelve_facts(figures, every)
            for width in (r(Fraction(10 ** 299 * 10, 10 ** 299 - 7)), r(18)):
                told = least_height(case, width)
                self.assertIsNotNone(some_box_places(case, width, told))
                if number(told) > 0:
                    self.assertIsNone(some_box_places(case, width, r(number(told) - min(NEAR, number(told)))))


if __name__ == "__main__":
    unittest.main()
