"""[6.5], [6.6] and [6.11] Sums and joint hulls of pairs."""

import unittest
from fractions import Fraction

from feltstone.cases import Case
from feltstone.patches import Patch, cut_patch, hull_of
from feltstone.sums import possible_hulls, possible_sums, sum_reach, sum_verdict, sure_hulls, sure_sums
from feltstone.sure import sure_places
from tests.made_cases import (
    BOX, FAR, FIVE, HIGH, NOTHING, ONE_PLACE, ON_STRETCH, SIDES, SMALL, TABLE, THREE_PLACES, WIDE, critical, greatest_least,
    lot_of, pairs_of_cases, place_in, stones_in, twelve_facts,
)
from tests.makers import DIRECTIONS, amount, holds, meets, number, numbers, p, patch, ps, r, source, within
from tests.test_meeting import reach

PAIRS = pairs_of_cases(40, 431)
POINTS = Case(TABLE, [meets((1, 2))])
LINE = Case(TABLE, [meets((1, 2)), meets((4, 2))])
STRETCHED = [Case(TABLE, [meets((0, 0), (0, 5)), meets((4, 0), (4, 5))]), Case(TABLE, [meets((0, 0)), meets((1, 3))])]
SURE = [(POINTS, POINTS), (POINTS, LINE), (LINE, LINE), (THREE_PLACES, LINE), (THREE_PLACES, FIVE), (THREE_PLACES, WIDE),
        (ONE_PLACE, ON_STRETCH), tuple(STRETCHED), (STRETCHED[1], WIDE)]


def ways_of(case):
    lot = lot_of(case)
    return critical(lot, lot)


def region(rows):
    """The patch of all places whose amount along each direction is at most the told one, or None."""
    left = patch((-1000, -1000), (1000, -1000), (1000, 1000), (-1000, 1000))
    for way, most in rows:
        left = left and cut_patch(left, way, r(most))
    return left


def all_sums(one, other):
    return hull_of([p(ax + bx, ay + by) for ax, ay in map(numbers, one.corners) for bx, by in map(numbers, other.corners)])


def sums_told(case, other):
    one, two = lot_of(case), lot_of(other)
    return region([(way, greatest_least(one, way) + greatest_least(two, way)) for way in {*ways_of(case), *ways_of(other)}])


def hulls_told(case, other):
    both = lot_of(case) + lot_of(other)
    one, two = lot_of(case), lot_of(other)
    return region([(way, max(greatest_least(one, way), greatest_least(two, way))) for way in critical(both, both)])


def holds_sum(one, other, place):
    """Whether a place lies in the sum of two patches."""
    return holds(all_sums(one, other).corners, place)


class Sums(unittest.TestCase):
    def test_example(self):
        self.assertEqual(sure_sums(case=WIDE, other=HIGH), patch((4, 4)))
        self.assertEqual(sure_sums(HIGH, WIDE), patch((4, 4)))
        self.assertEqual(possible_sums(case=WIDE, other=HIGH), patch((0, 0), (8, 0), (8, 8), (0, 8)))
        self.assertEqual(sum_verdict(case=WIDE, other=HIGH, place=p(4, 4)), "always")
        self.assertEqual((sure_places(WIDE), sure_places(HIGH)), (None, None))

    def test_sure_sums_are_as_told(self):
        kinds = set()
        for case, other in PAIRS + SURE:
            told = sure_sums(case, other)
            self.assertEqual(told, sums_told(case, other))
            self.assertEqual(sure_sums(other, case), told)
            kinds.add(None if told is None else min(3, len(told)))
        self.assertEqual(kinds, {None, 1, 2, 3})

    def test_along_all_directions(self):
        picks = source(432)
        ways = DIRECTIONS + [(picks.randint(-60, 60), 61) for _ in range(10)]
        for case, other in PAIRS[::3] + SURE:
            told, one, two = sure_sums(case, other), lot_of(case), lot_of(other)
            for corner in told.corners if told else ():
                for way in ways:
                    self.assertLessEqual(amount(way, corner), greatest_least(one, way) + greatest_least(two, way))

    def test_sums_of_stones(self):
        picks = source(433)
        for case, other in PAIRS[::2] + SURE:
            sure, may = sure_sums(case, other), possible_sums(case, other)
            self.assertIs(type(may), Patch)
            self.assertEqual(may, all_sums(case.whole, other.whole))
            for one, two in zip(stones_in(case, picks), stones_in(other, picks)):
                sums = all_sums(one, two)
                self.assertTrue(all(holds(may.corners, corner) for corner in sums.corners))
                self.assertTrue(sure is None or all(holds(sums.corners, corner) for corner in sure.corners))

    def test_verdicts(self):
        picks, seen = source(434), set()
        for case, other in PAIRS[::2] + SURE:
            sure, may = sums_told(case, other), all_sums(case.whole, other.whole)
            places = [place_in(may, picks), may.corners[0], p(100, 0), may.middle]
            places += [*sure.corners, sure.middle] if sure else []
            for place in places + [p(numbers(place)[0] + Fraction(1, 10 ** 20), numbers(place)[1]) for place in places]:
                due = "always" if sure and holds(sure.corners, place) else "maybe" if holds(may.corners, place) else "never"
                self.assertEqual(sum_verdict(case, other, place), due)
                self.assertEqual(sum_verdict(case, other, list(place)), due)
                seen.add(due)
        self.assertEqual(seen, {"always", "maybe", "never"})
        for place, due in ((p(4, "41/10"), "maybe"), (p(0, 0), "maybe"), (p(8, 8), "maybe"), (p(8, "81/10"), "never"), (p(-1, 0), "never")):
            self.assertEqual(sum_verdict(WIDE, HIGH, place), due)

    def test_reaches(self):
        picks = source(435)
        for case, other in PAIRS[::2] + SURE:
            for way in DIRECTIONS[:7]:
                least, most = sum_reach(case=case, other=other, direction=way)
                self.assertEqual(number(least), greatest_least(lot_of(case), way) + greatest_least(lot_of(other), way))
                self.assertEqual(number(most), reach(case.whole, way) + reach(other.whole, way))
                self.assertEqual(sum_reach(case, other, list(way)), (least, most))
                for one, two in zip(stones_in(case, picks, 2), stones_in(other, picks, 2)):
                    self.assertTrue(number(least) <= reach(one, way) + reach(two, way) <= number(most))
        self.assertEqual(sum_reach(WIDE, HIGH, (1, 0)), (r(4), r(8)))
        self.assertEqual(sum_reach(NOTHING, SMALL, (1, 1)), (r(-17), r("39/2")))

    def test_led_along(self):
        for case, other in (PAIRS + SURE)[::6]:
            for one, two in ((sure_sums, 2), (possible_sums, 2), (sure_hulls, 1), (possible_hulls, 1)):
                told = one(case, other)
                turned = one(case.turned(), other.turned())
                self.assertEqual(turned, told and hull_of([((-y[0], y[1]), x) for x, y in told]))
                moved = one(case.shifted(p(3, "1/2")), other.shifted(p(3, "1/2")))
                self.assertEqual(moved, told and hull_of([p(numbers(c)[0] + 3 * two, numbers(c)[1] + Fraction(two, 2)) for c in told]))


class Hulls(unittest.TestCase):
    def test_example(self):
        self.assertEqual(sure_hulls(case=WIDE, other=HIGH), patch((2, 2)))
        self.assertEqual(possible_hulls(case=WIDE, other=HIGH), patch((0, 0), (4, 0), (4, 4), (0, 4)))

    def test_sure_hulls_are_as_told(self):
        kinds = set()
        for case, other in PAIRS + SURE:
            told = sure_hulls(case, other)
            self.assertEqual(told, hulls_told(case, other))
            self.assertEqual(sure_hulls(other, case), told)
            kinds.add(None if told is None else min(3, len(told)))
        self.assertEqual(kinds, {None, 1, 2, 3})

    def test_hulls_of_stones(self):
        picks = source(436)
        for case, other in PAIRS[::2] + SURE:
            sure, may = sure_hulls(case, other), possible_hulls(case, other)
            self.assertEqual(may, hull_of(case.whole.corners + other.whole.corners))
            for one, two in zip(stones_in(case, picks), stones_in(other, picks)):
                joint = hull_of(one.corners + two.corners)
                self.assertTrue(all(holds(may.corners, corner) for corner in joint.corners))
                self.assertTrue(sure is None or all(holds(joint.corners, corner) for corner in sure.corners))

    def test_some(self):
        self.assertEqual(sure_hulls(POINTS, POINTS), patch((1, 2)))
        self.assertEqual(sure_hulls(POINTS, Case(TABLE, [meets((7, 2))])), patch((1, 2), (7, 2)))
        self.assertEqual(sure_hulls(LINE, Case(TABLE, [meets((0, 5))])), patch((0, 5), (1, 2), (4, 2)))
        self.assertIsNone(sure_hulls(NOTHING, NOTHING))
        self.assertIsNone(sure_hulls(SIDES, NOTHING))
        # The one case alone has a sure place here, which is in all joint hulls.
        self.assertEqual(sure_hulls(BOX, NOTHING), patch((2, 1)))
        self.assertEqual(possible_hulls(POINTS, FAR), hull_of(ps((-9, -9), (30, -9), (30, 9), (-9, 9))))


class ManyFigures(unittest.TestCase):
    def test_twelve_facts(self):
        for figures, every, others in ((60, 1, 2), (60, 0, 1), (150, 3, 0)):
            case, other = twelve_facts(figures, every), twelve_facts(figures, others)
            sure = sure_sums(case, other)
            if sure is not None:
                self.assertEqual(sum_verdict(case, other, sure.middle), "always")
            self.assertEqual(sum_verdict(case, other, possible_sums(case, other).corners[0]), "maybe")
            self.assertEqual(sum_verdict(case, other, p(30, 30)), "never")
            joint = sure_hulls(case, other)
            self.assertTrue(joint is None or all(corner in possible_hulls(case, other) for corner in joint))
        self.assertIsNotNone(sure_sums(twelve_facts(60, 0), twelve_facts(60, 0)))
        self.assertIs(sum_verdict(twelve_facts(60, 0), Case(TABLE, [within(1, 0, 9)]), p(0, 0)), "maybe")


if __name__ == "__main__":
    unittest.main()
