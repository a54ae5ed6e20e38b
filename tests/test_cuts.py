"""[1.11] What is cut off patches, what they have in common, and patches that are led along."""

import unittest
from fractions import Fraction
from itertools import product

from feltstone.patches import (
    common_patch, cut_patch, grow_patch, hull_of, lies_in, line_patch, low_of, mirror_patch, reach_of, shift_patch,
    turn_patch,
)
from feltstone.places import across, amount_at, mirror_direction, mirror_place, turn_place
from tests.makers import (
    DIRECTIONS, HEXAGON, POINT, SHAPES, SQUARE, STRETCH, TRIANGLE, UPRIGHT, amount, grid, holds, numbers, p, patch, r,
    some_places, source,
)

LONG = 10 ** 90 - 1


def crossings(shape, way, end):
    """The places strictly inside the sides of a shape at which the amount along a direction is met."""
    found = []
    for one, other in shape.sides:
        start, stop = amount(way, one) - end, amount(way, other) - end
        if start * stop < 0:
            share = start / (start - stop)
            (a, b), (c, d) = numbers(one), numbers(other)
            found.append(p(a + share * (c - a), b + share * (d - b)))
    return found


def all_of(case, shape, places):
    """The hull of the places is the shape; None where there are no places."""
    case.assertEqual(shape, hull_of(places) if places else None)


class Cutting(unittest.TestCase):
    def test_a_square(self):
        self.assertEqual(cut_patch(SQUARE, (1, 0), r(3)), SQUARE)
        self.assertEqual(cut_patch(SQUARE, (1, 0), r(2)), SQUARE)
        self.assertEqual(cut_patch(SQUARE, [1, 0], r("1/3")), patch((0, 0), ("1/3", 0), ("1/3", 2), (0, 2)))
        self.assertEqual(cut_patch(SQUARE, (1, 0), r(0)), patch((0, 0), (0, 2)))
        self.assertIsNone(cut_patch(SQUARE, (1, 0), r("-1/9")))
        self.assertEqual(cut_patch(SQUARE, (1, 1), r(3)), patch((0, 0), (2, 0), (2, 1), (1, 2), (0, 2)))
        self.assertEqual(cut_patch(SQUARE, (1, 1), r(2)), patch((0, 0), (2, 0), (0, 2)))
        self.assertEqual(cut_patch(SQUARE, (-1, -1), r(-4)), patch((2, 2)))
        self.assertIsNone(cut_patch(SQUARE, (-1, -1), r("-9/2")))

    def test_a_stretch(self):
        self.assertEqual(cut_patch(STRETCH, (1, 0), r(1)), patch((-1, 2), (1, 1)))
        self.assertEqual(cut_patch(STRETCH, (-1, 0), r(-1)), patch((1, 1), (3, 0)))
        self.assertEqual(cut_patch(STRETCH, (1, 2), r(3)), STRETCH)
        self.assertIsNone(cut_patch(STRETCH, (1, 2), r(2)))
        self.assertEqual(cut_patch(STRETCH, (1, 0), r(-1)), patch((-1, 2)))
        self.assertEqual(cut_patch(UPRIGHT, (0, -1), r(-5)), patch((1, 5)))
        self.assertEqual(cut_patch(UPRIGHT, (0, 1), r(0)), patch((1, -1), (1, 0)))

    def test_a_place(self):
        self.assertEqual(cut_patch(POINT, (0, 1), r(-3)), POINT)
        self.assertEqual(cut_patch(POINT, (0, 1), r(0)), POINT)
        self.assertIsNone(cut_patch(POINT, (0, 1), r(-4)))

    def test_lines(self):
        self.assertEqual(line_patch(SQUARE, (1, 0), r(1)), patch((1, 0), (1, 2)))
        self.assertEqual(line_patch(SQUARE, [1, 0], r(2)), patch((2, 0), (2, 2)))
        self.assertEqual(line_patch(SQUARE, (1, 1), r(4)), patch((2, 2)))
        self.assertEqual(line_patch(SQUARE, (1, -1), r(0)), patch((0, 0), (2, 2)))
        self.assertIsNone(line_patch(SQUARE, (1, 1), r(5)))
        self.assertIsNone(line_patch(SQUARE, (1, 1), r(-1)))
        self.assertEqual(line_patch(STRETCH, (1, 2), r(3)), STRETCH)
        self.assertEqual(line_patch(STRETCH, (1, 0), r(2)), patch((2, "1/2")))
        self.assertEqual(line_patch(POINT, (2, 0), r(1)), POINT)
        self.assertIsNone(line_patch(POINT, (2, 0), r(2)))

    def test_at_corners_between_and_beyond(self):
        for shape, way in product(SHAPES, DIRECTIONS):
            ends = sorted({amount(way, corner) for corner in shape.corners})
            ends += [(one + two) / 2 for one, two in zip(ends, ends[1:])] + [ends[0] - 1, ends[-1] + 1]
            for end in ends:
                cut, line = crossings(shape, way, end), crossings(shape, way, end)
                cut += [corner for corner in shape.corners if amount(way, corner) <= end]
                line += [corner for corner in shape.corners if amount(way, corner) == end]
                all_of(self, cut_patch(shape, way, r(end)), cut)
                all_of(self, line_patch(shape, list(way), r(end)), line)

    def test_places_of_cuts(self):
        for way, end in (((2, 1), "3/2"), ((-1, 3), 1), ((-3, -2), "-1/3")):
            cut = cut_patch(HEXAGON, way, r(end))
            for place in grid(-3, 4, "1/3"):
                there = holds(HEXAGON.corners, place) and amount(way, place) <= Fraction(end)
                self.assertIs(place in cut, there)

    def test_the_patch_stays_as_it_was(self):
        corners = HEXAGON.corners
        told = cut_patch(HEXAGON, (1, 0), r(0))
        self.assertIsNot(cut_patch(HEXAGON, (1, 0), r(9)), HEXAGON)
        self.assertNotEqual(told, HEXAGON)
        self.assertEqual(HEXAGON.corners, corners)

    def test_long_numbers(self):
        near = Fraction(1, LONG)
        self.assertEqual(cut_patch(SQUARE, (1, 1), r(near)), patch((0, 0), (near, 0), (0, near)))
        self.assertEqual(line_patch(SQUARE, (LONG, 1), r(1)), patch((0, 1), (near, 0)))


class Common(unittest.TestCase):
    def test_two_squares(self):
        self.assertEqual(common_patch(SQUARE, shift_patch(SQUARE, p(1, 1))), patch((1, 1), (2, 1), (2, 2), (1, 2)))
        self.assertEqual(common_patch(SQUARE, SQUARE), SQUARE)

    def test_touching_in_a_corner_or_along_a_side_only(self):
        self.assertEqual(common_patch(SQUARE, shift_patch(SQUARE, p(2, 2))), patch((2, 2)))
        self.assertEqual(common_patch(SQUARE, shift_patch(SQUARE, p(2, 0))), patch((2, 0), (2, 2)))
        self.assertEqual(common_patch(SQUARE, shift_patch(SQUARE, p(2, "1/2"))), patch((2, "1/2"), (2, 2)))
        self.assertIsNone(common_patch(SQUARE, shift_patch(SQUARE, p("21/10", 0))))
        self.assertIsNone(common_patch(SQUARE, patch((2, 3), (3, 2))))
        self.assertEqual(common_patch(SQUARE, patch((1, 3), (3, 1))), patch((2, 2)))

    def test_stretches_and_places(self):
        self.assertEqual(common_patch(STRETCH, UPRIGHT), patch((1, 1)))
        self.assertEqual(common_patch(STRETCH, patch((1, 1), (5, -1))), patch((1, 1), (3, 0)))
        self.assertEqual(common_patch(STRETCH, patch((3, 0), (5, -1))), patch((3, 0)))
        self.assertIsNone(common_patch(STRETCH, patch((5, -1), (7, -2))))
        self.assertIsNone(common_patch(STRETCH, shift_patch(STRETCH, p(0, 1))))
        self.assertIsNone(common_patch(STRETCH, patch((2, 2), (3, 3))))
        self.assertEqual(common_patch(POINT, POINT), POINT)
        self.assertIsNone(common_patch(POINT, patch(("1/2", "-7/2"))))
        self.assertEqual(common_patch(SQUARE, patch((2, 1))), patch((2, 1)))
        self.assertIsNone(common_patch(SQUARE, patch((2, 3))))

    def test_all_pairs(self):
        picks = source(51)
        shapes = SHAPES + [hull_of(some_places(picks, many, 3, (1, 2))) for many in (1, 2, 3, 4, 5, 6, 7, 8)]
        places = grid(-3, 4)
        for one, other in product(shapes, repeat=2):
            common = common_patch(one, other)
            self.assertEqual(common, common_patch(other, one))
            corners = common.corners if common else ()
            self.assertTrue(all(holds(one.corners, place) and holds(other.corners, place) for place in corners))
            for place in [*places, *one.corners, *other.corners]:
                there = holds(one.corners, place) and holds(other.corners, place)
                self.assertIs(common is not None and place in common, there)

    def test_crossings_of_sides_lie_in_both(self):
        other = patch((0, 2), (2, -1), (4, 2))
        told = patch((0, 2), ("4/3", 0), ("8/3", 0), ("28/9", "2/3"), ("4/3", 2))
        self.assertEqual(common_patch(TRIANGLE, other), told)
        self.assertEqual(common_patch(other, TRIANGLE), told)

    def test_lying_in(self):
        self.assertIs(lies_in(SQUARE, SQUARE), True)
        self.assertIs(lies_in(patch((0, 0), (2, 2)), SQUARE), True)
        self.assertIs(lies_in(patch((0, 0), (2, 3)), SQUARE), False)
        self.assertIs(lies_in(SQUARE, patch((0, 0), (2, 2))), False)
        self.assertIs(lies_in(patch((1, 1)), STRETCH), True)
        self.assertIs(lies_in(patch((1, 1), (3, 0)), STRETCH), True)
        self.assertIs(lies_in(STRETCH, patch((1, 1))), False)
        self.assertIs(lies_in(POINT, POINT), True)
        for one, other in product(SHAPES, repeat=2):
            self.assertIs(lies_in(one, other), common_patch(one, other) == one)


class LedAlong(unittest.TestCase):
    def test_examples(self):
        self.assertEqual(shift_patch(SQUARE, list(p(-1, "1/2"))), patch((-1, "1/2"), (1, "1/2"), (1, "5/2"), (-1, "5/2")))
        self.assertEqual(turn_patch(TRIANGLE), patch((-3, 0), (0, 0), (0, 4)))
        self.assertEqual(mirror_patch(TRIANGLE), patch((-4, 0), (0, 0), (0, 3)))
        self.assertEqual(grow_patch(TRIANGLE, r("1/2")), patch((0, 0), (2, 0), (0, "3/2")))
        self.assertEqual(turn_patch(STRETCH), patch((-2, -1), (0, 3)))
        self.assertEqual(mirror_patch(STRETCH), patch((-3, 0), (1, 2)))
        self.assertEqual(turn_patch(UPRIGHT), patch((-5, 1), (1, 1)))

    def test_each_corner_is_led_along(self):
        step, size = p("-7/3", LONG), r("2/5")
        for shape in SHAPES:
            corners = [numbers(corner) for corner in shape.corners]
            dx, dy = numbers(step)
            self.assertEqual(shift_patch(shape, step), hull_of([p(x + dx, y + dy) for x, y in corners]))
            self.assertEqual(turn_patch(shape), hull_of([turn_place(corner) for corner in shape.corners]))
            self.assertEqual(mirror_patch(shape), hull_of([mirror_place(corner) for corner in shape.corners]))
            grown = [p(x * Fraction(*size), y * Fraction(*size)) for x, y in corners]
            self.assertEqual(grow_patch(shape, size), hull_of(grown))

    def test_amounts(self):
        step, size = p("-7/3", 5), r("2/5")
        for shape, way in product(SHAPES, DIRECTIONS):
            for end_of in (reach_of, low_of):
                end = end_of(shape, way)
                self.assertEqual(end_of(turn_patch(shape), across(way)), end)
                self.assertEqual(end_of(mirror_patch(shape), mirror_direction(way)), end)
                self.assertEqual(end_of(grow_patch(shape, size), way), r(Fraction(*end) * Fraction(*size)))
                moved = Fraction(*end) + Fraction(*amount_at(way, step))
                self.assertEqual(end_of(shift_patch(shape, step), way), r(moved))

    def test_there_and_back(self):
        for shape in SHAPES:
            self.assertEqual(turn_patch(turn_patch(turn_patch(turn_patch(shape)))), shape)
            self.assertEqual(mirror_patch(mirror_patch(shape)), shape)
            self.assertEqual(grow_patch(grow_patch(shape, r("3/7")), r("7/3")), shape)
            self.assertEqual(shift_patch(shift_patch(shape, p(5, "-1/3")), p(-5, "1/3")), shape)


if __name__ == "__main__":
    unittest.main()
