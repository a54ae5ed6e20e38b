"""[7.1] and [7.2] Sums and opposites of patches, and even stones."""

import unittest
from fractions import Fraction

from feltstone.errors import BadDirection
from feltstone.evens import difference_range, even_of, is_even, opposite_patch, sum_patches
from feltstone.patches import Patch, grow_patch, hull_of, shift_patch
from tests.makers import (
    DIRECTIONS, HEXAGON, POINT, SHAPES, SQUARE, STRETCH, TRIANGLE, UPRIGHT, amount, bow, cross, holds, is_told_as_patch, number,
    numbers, p, patch, r, some_places, source,
)
from tests.test_critical import NO_WAYS

EVEN = [patch((0, 0)), patch((-1, 2), (1, -2)), patch((-1, -1), (1, -1), (1, 1), (-1, 1)),
        patch((-3, 0), (-1, -2), (2, -2), (3, 0), (1, 2), (-2, 2))]
FLAT = patch((0, 0), (3, 0))
SLOPES = [patch((0, 0), (2, 1)), patch((0, 0), (4, 2), (4, 3)), patch((-1, 0), (1, 1), (1, 2), (-1, 1))]


def some_patches(seed, many):
    picks = source(seed)
    return [hull_of(some_places(picks, picks.randint(1, 7), 3)) for _ in range(many)]


PATCHES = SHAPES + EVEN + SLOPES + [FLAT] + some_patches(421, 40)


def all_sums(one, other):
    return {(numbers(a)[0] + numbers(b)[0], numbers(a)[1] + numbers(b)[1]) for a in one.corners for b in other.corners}


def breadth(one, way):
    amounts = [amount(way, corner) for corner in one.corners]
    return max(amounts) - min(amounts)


def twice(one):
    return sum(cross(one.corners[0], a, b) for a, b in zip(one.corners, one.corners[1:]))


class Sums(unittest.TestCase):
    def test_against_all_sums(self):
        for one in PATCHES:
            for other in PATCHES:
                told = sum_patches(one=one, other=other)
                self.assertIs(type(told), Patch)
                sums = all_sums(one, other)
                self.assertTrue(is_told_as_patch(told.corners))
                self.assertTrue({numbers(corner) for corner in told.corners} <= sums)
                self.assertTrue(all(holds(told.corners, p(x, y)) for x, y in sums))

    def test_of_parallel_sides(self):
        rows = [
            (SQUARE, SQUARE, patch((0, 0), (4, 0), (4, 4), (0, 4))), (FLAT, FLAT, patch((0, 0), (6, 0))),
            (SQUARE, FLAT, patch((0, 0), (5, 0), (5, 2), (0, 2))), (SLOPES[0], SLOPES[1], patch((0, 0), (6, 3), (6, 4), (4, 3))),
            (SLOPES[0], SLOPES[0], patch((0, 0), (4, 2))), (UPRIGHT, patch((0, 0), (0, 1)), patch((1, -1), (1, 6))),
            (TRIANGLE, opposite_patch(TRIANGLE), patch((-4, 0), (0, -3), (4, -3), (4, 0), (0, 3), (-4, 3))),
        ]
        for one, other, due in rows:
            self.assertEqual(sum_patches(one, other), due)
            self.assertEqual(sum_patches(other, one), due)

    def test_of_places_and_stretches(self):
        self.assertEqual(sum_patches(POINT, POINT), patch((1, -6)))
        self.assertEqual(sum_patches(patch((0, 0)), HEXAGON), HEXAGON)
        self.assertEqual(sum_patches(HEXAGON, patch((1, 2))), shift_patch(HEXAGON, p(1, 2)))
        self.assertEqual(sum_patches(STRETCH, POINT), patch(("-1/2", -1), ("7/2", -3)))
        self.assertEqual(sum_patches(FLAT, UPRIGHT), patch((1, -1), (4, -1), (4, 5), (1, 5)))
        self.assertEqual(sum_patches(STRETCH, UPRIGHT), patch((0, 1), (4, -1), (4, 5), (0, 7)))
        self.assertEqual(sum_patches(STRETCH, opposite_patch(STRETCH)), patch((-4, 2), (4, -2)))

    def test_reaches_and_order(self):
        for one, other in zip(PATCHES, PATCHES[::-1]):
            told = sum_patches(one, other)
            self.assertEqual(told, sum_patches(other, one))
            self.assertEqual(sum_patches(told, one), sum_patches(one, told))
            for way in DIRECTIONS:
                due = max(amount(way, corner) for corner in one.corners) + max(amount(way, corner) for corner in other.corners)
                self.assertEqual(max(amount(way, corner) for corner in told.corners), due)

    def test_many_corners_and_figures(self):
        # The long side of each bow is along one of the short ones of the other.
        self.assertEqual(len(sum_patches(bow(60), opposite_patch(bow(60)))), 118)
        self.assertEqual(len(sum_patches(bow(60), bow(60))), 60)
        picks, wide = source(422), 10 ** 290
        one, other = [hull_of([p(Fraction(picks.randint(-wide, wide), picks.randint(1, wide)), picks.randint(-wide, wide))
                               for _ in range(16)]) for _ in range(2)]
        self.assertEqual(sum_patches(one, other), hull_of([p(x, y) for x, y in all_sums(one, other)]))


class Opposites(unittest.TestCase):
    def test_wholly(self):
        for one in PATCHES:
            told = opposite_patch(patch=one)
            self.assertIs(type(told), Patch)
            self.assertEqual({numbers(corner) for corner in told.corners},
                             {(-numbers(corner)[0], -numbers(corner)[1]) for corner in one.corners})
            self.assertEqual(opposite_patch(told), one)
            self.assertTrue(is_told_as_patch(told.corners))

    def test_some(self):
        self.assertEqual(opposite_patch(POINT), patch(("-1/2", 3)))
        self.assertEqual(opposite_patch(STRETCH), patch((-3, 0), (1, -2)))
        self.assertEqual(opposite_patch(SQUARE), patch((-2, -2), (0, -2), (0, 0), (-2, 0)))


class Differences(unittest.TestCase):
    def test_wholly(self):
        for one in PATCHES:
            for way in DIRECTIONS:
                told = difference_range(patch=one, direction=way)
                self.assertEqual(told, (r(-breadth(one, way)), r(breadth(one, way))))
                self.assertEqual(difference_range(one, list(way)), told)
        self.assertEqual(difference_range(SQUARE, (1, 1)), (r(-4), r(4)))
        self.assertEqual(difference_range(POINT, (5, 7)), (r(0), r(0)))

    def test_direction(self):
        for way in NO_WAYS:
            with self.assertRaises(BadDirection):
                difference_range(SQUARE, way)


class Evens(unittest.TestCase):
    def test_is_even(self):
        for one in EVEN:
            self.assertIs(is_even(patch=one), True)
            self.assertIs(is_even(shift_patch(one, p("1/9", 0))), False)
        for one in SHAPES:
            self.assertIs(is_even(one), False)
        for one in PATCHES:
            self.assertIs(is_even(one), opposite_patch(one) == one)

    def test_even_of(self):
        picks = source(423)
        for one in PATCHES:
            told = even_of(patch=one)
            self.assertIs(type(told), Patch)
            self.assertIs(is_even(told), True)
            self.assertEqual(told.middle, p(0, 0))
            self.assertGreaterEqual(twice(told), twice(one))
            self.assertEqual(is_even(one), told == one)
            ways = DIRECTIONS + [(picks.randint(1, 50), 51), (53, picks.randint(-52, -1))]
            for way in ways:
                self.assertEqual(breadth(told, way), breadth(one, way))
            halves = [((ax - bx) / 2, (ay - by) / 2) for ax, ay in map(numbers, one.corners) for bx, by in map(numbers, one.corners)]
            self.assertEqual(told, hull_of([p(x, y) for x, y in halves]))

    def test_some(self):
        self.assertEqual(even_of(POINT), patch((0, 0)))
        self.assertEqual(even_of(STRETCH), patch((-2, 1), (2, -1)))
        self.assertEqual(even_of(SQUARE), patch((-1, -1), (1, -1), (1, 1), (-1, 1)))
        self.assertEqual(even_of(TRIANGLE), grow_patch(patch((-4, 0), (0, -3), (4, -3), (4, 0), (0, 3), (-4, 3)), r("1/2")))
        self.assertEqual(number(even_of(TRIANGLE).twice_area), 18)

    def test_the_same_breadths_exactly_if_the_same_even_stone(self):
        for one in PATCHES[:20]:
            for other in [shift_patch(one, p(1, "1/3")), opposite_patch(one), *PATCHES[:12]]:
                ways = [(-y, x) for patch_told in (one, other) for x, y in ways_of(patch_told)] + DIRECTIONS
                alike = all(breadth(one, way) == breadth(other, way) for way in ways)
                self.assertIs(alike, even_of(one) == even_of(other))


def ways_of(one):
    """Whole steps along all sides of a patch."""
    for a, b in zip(one.corners, one.corners[1:] + one.corners[:1]):
        (ax, ay), (bx, by) = numbers(a), numbers(b)
        yield (bx - ax, by - ay)


if __name__ == "__main__":
    unittest.main()
