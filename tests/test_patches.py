"""[1.7] to [1.10] Patches, hulls and halves. ([1.11] stands in test_cuts.py.)"""

import unittest
from fractions import Fraction
from itertools import permutations
from math import lcm

from feltstone.errors import BadPatch
from feltstone.patches import (
    Patch, breadth_of, corner_patches, halves_of, hull_of, low_of, reach_of, touched_by, whole_corners,
)
from feltstone.places import side_normal
from feltstone.ratios import HALF, ZERO
from tests.makers import (
    DIRECTIONS, HEXAGON, JUNK, POINT, SHAPES, SQUARE, STRETCH, TRIANGLE, UPRIGHT, amount, cross, grid, holds, is_told_as_patch,
    numbers, p, patch, ps, r, some_places, source,
)

LONG = 10 ** 90 - 1
LONGER = 10 ** 299 + 1


def refused(case, corners, what):
    with case.assertRaises(BadPatch) as caught:
        Patch(corners)
    case.assertEqual(caught.exception.what, what)


class Making(unittest.TestCase):
    def test_corners_are_kept_as_tuples(self):
        corners = ps((0, 0), (2, 0), (2, 2), (0, 2))
        given = [list(corner) for corner in corners]
        made = Patch(corners=given)
        self.assertEqual(made.corners, corners)
        self.assertEqual(Patch(corners).corners, corners)
        self.assertTrue(all(type(corner) is tuple for corner in made.corners))
        self.assertIs(type(made.corners), tuple)
        given[0][0] = r(-5)
        given.pop()
        self.assertEqual(made.corners, corners)

    def test_len_and_iteration(self):
        for shape, many in zip(SHAPES, (4, 3, 2, 2, 1, 6)):
            self.assertEqual(len(shape), many)
            self.assertEqual(tuple(shape), shape.corners)
            self.assertEqual([corner for corner in shape], list(shape.corners))

    def test_equality(self):
        for k, one in enumerate(SHAPES):
            for m, other in enumerate(SHAPES):
                self.assertIs(one == Patch(list(other.corners)), k == m)
                self.assertIs(one != Patch(other.corners), k != m)
            for thing in (one.corners, list(one.corners), None, 1, "patch", Patch):
                self.assertFalse(one == thing)
                self.assertFalse(thing == one)
                self.assertTrue(one != thing)

    def test_many_is_asked_first(self):
        for thing in JUNK + [1, [], (), SQUARE, dict.fromkeys(SQUARE.corners), (corner for corner in SQUARE)]:
            refused(self, thing, "many")

    def test_corner_is_asked_before_turn(self):
        good = ps((2, 2), (0, 0), (2, 0))
        for wrong in JUNK + [(1, 1), 1, (r(1),), (r(1), r(1), r(1)), (r(1), 1), (1, r(1)), ([1, 1], r(1)),
                             ((2, 4), r(1)), [], (r(1), (1, 0))]:
            refused(self, [wrong], "corner")
            for k in range(4):
                refused(self, [*good[:k], wrong, *good[k:]], "corner")

    def test_two_corners(self):
        self.assertEqual(Patch(ps((0, 5), (1, -7))).corners, ps((0, 5), (1, -7)))
        self.assertEqual(Patch(ps((0, 0), (0, 1))).corners, ps((0, 0), (0, 1)))
        refused(self, ps((1, -7), (0, 5)), "turn")
        refused(self, ps((0, 1), (0, 0)), "turn")
        refused(self, ps((1, 1), (1, 1)), "turn")

    def test_one_order_alone_is_right(self):
        for shape in SHAPES + [patch((0, 0), (1, -3), (2, 0), (1, 3)), patch((-1, -1), (0, "-3/2"), (4, 0), (-1, 2))]:
            for corners in permutations(shape.corners):
                if corners == shape.corners:
                    self.assertEqual(Patch(corners), shape)
                else:
                    refused(self, corners, "turn")

    def test_begun_elsewhere_and_turned_about(self):
        corners = HEXAGON.corners
        for k in range(1, 6):
            refused(self, corners[k:] + corners[:k], "turn")
        refused(self, corners[:1] + corners[:0:-1], "turn")

    def test_least_corner_by_x_then_by_y(self):
        self.assertEqual(len(patch((0, -1), (3, 0), (0, 1))), 3)
        refused(self, ps((0, 1), (0, -1), (3, 0)), "turn")

    def test_three_along_one_line(self):
        refused(self, ps((0, 0), (1, 1), (2, 2)), "turn")
        refused(self, ps((0, 0), (1, 0), (2, 0), (2, 2), (0, 2)), "turn")
        refused(self, ps((0, 0), (2, 0), (2, 2), (0, 2), (0, 1)), "turn")
        refused(self, ps((0, 0), (2, 0), (2, 1), (2, 2), (0, 2)), "turn")

    def test_corners_that_come_twice(self):
        corners = SQUARE.corners
        refused(self, corners + corners, "turn")
        refused(self, corners + corners[:1], "turn")
        refused(self, corners[:1] + corners, "turn")
        refused(self, ps((0, 0), (0, 0)), "turn")
        refused(self, ps((0, 0), (2, 0), (2, 0), (0, 2)), "turn")

    def test_rows_that_turn_left_but_go_round_twice(self):
        star = ps((-3, 1), (3, 1), (-2, -3), (0, 4), (2, -3))
        for k in range(5):
            refused(self, star[k:] + star[:k], "turn")

    def test_a_dent(self):
        refused(self, ps((0, 0), (4, 0), (4, 4), (3, 1)), "turn")
        refused(self, ps((0, 0), (4, 0), (1, 1), (0, 4)), "turn")

    def test_any_number_of_corners(self):
        corners = ps(*((k, k * k) for k in range(-60, 61)))
        self.assertEqual(len(Patch(corners)), 121)
        refused(self, corners[:60] + corners[61:] + corners[60:61], "turn")

    def test_long_numbers(self):
        near = Fraction(1, LONG)
        self.assertEqual(len(patch((0, 0), (1, -near), (2, 0))), 3)
        self.assertEqual(len(patch((0, 0), (LONGER, LONGER + 1))), 2)
        refused(self, ps((0, 0), (1, near), (2, 0)), "turn")
        refused(self, ps((0, 0), (LONGER, LONGER), (2 * LONGER, 2 * LONGER)), "turn")
        self.assertEqual(len(patch((0, 0), (LONGER, LONGER), (2 * LONGER, 2 * LONGER + near))), 3)

    def test_rows_of_any_places(self):
        picks = source(31)
        for _ in range(400):
            corners = tuple(some_places(picks, picks.randint(1, 5), 2, (1, 2)))
            if is_told_as_patch(corners):
                self.assertEqual(Patch(corners).corners, corners)
            else:
                refused(self, corners, "turn")


class Holding(unittest.TestCase):
    def test_rim_and_corners_belong(self):
        for shape in SHAPES:
            for corner in shape.corners:
                self.assertIn(corner, shape)
                self.assertIn(list(corner), shape)
            for one, other in shape.sides:
                self.assertIn(hull_of([one, other]).middle, shape)
            self.assertIs(shape.middle in shape, True)

    def test_places_of_a_lattice(self):
        for shape in SHAPES:
            for place in grid(-4, 6):
                self.assertIs(place in shape, holds(shape.corners, place))

    def test_along_the_line_of_a_stretch(self):
        self.assertIn(p(1, 1), STRETCH)
        for place in (p(-3, 3), p(5, -1), p(1, "9/8"), p(1, "7/8")):
            self.assertNotIn(place, STRETCH)
        for place, there in ((p(1, -2), False), (p(1, -1), True), (p(1, 5), True), (p(1, 6), False), (p(0, 0), False)):
            self.assertIs(place in UPRIGHT, there)

    def test_just_beside_the_rim(self):
        near = Fraction(1, LONGER)
        self.assertIn(p(1, 0), SQUARE)
        self.assertNotIn(p(1, -near), SQUARE)
        self.assertIn(p(1, near), SQUARE)
        self.assertNotIn(p(2 + near, 1), SQUARE)
        self.assertNotIn(p(Fraction(1, 2) + near, -3), POINT)


class Properties(unittest.TestCase):
    def test_sides(self):
        a, b, c = TRIANGLE.corners
        self.assertEqual(TRIANGLE.sides, ((a, b), (b, c), (c, a)))
        self.assertEqual(STRETCH.sides, (STRETCH.corners,))
        self.assertEqual(POINT.sides, ())
        self.assertEqual(len(HEXAGON.sides), 6)
        self.assertEqual(HEXAGON.sides[-1], (HEXAGON.corners[5], HEXAGON.corners[0]))

    def test_twice_area(self):
        areas = [r(8), r(12), ZERO, ZERO, ZERO]
        self.assertEqual([shape.twice_area for shape in SHAPES[:5]], areas)
        for shape in SHAPES:
            rows = [numbers(corner) for corner in shape.corners]
            laces = sum(a * d - b * c for (a, b), (c, d) in zip(rows, rows[1:] + rows[:1]))
            self.assertEqual(shape.twice_area, r(laces))
        self.assertEqual(patch((0, 0), ("1/3", 0), (0, "1/2")).twice_area, r("1/6"))

    def test_middle(self):
        self.assertEqual(SQUARE.middle, p(1, 1))
        self.assertEqual(TRIANGLE.middle, p("4/3", 1))
        self.assertEqual(STRETCH.middle, p(1, 1))
        self.assertEqual(POINT.middle, p("1/2", -3))
        self.assertEqual(HEXAGON.middle, p("1/3", "1/12"))


class Hulls(unittest.TestCase):
    def test_many(self):
        for thing in JUNK + [1, [], (), SQUARE, dict.fromkeys(SQUARE.corners), (corner for corner in SQUARE)]:
            with self.assertRaises(BadPatch) as caught:
                hull_of(thing)
            self.assertEqual(caught.exception.what, "many")

    def test_equal_places(self):
        for many in (1, 2, 5):
            self.assertEqual(hull_of([p(3, "1/2")] * many).corners, ps((3, "1/2")))

    def test_places_along_one_line(self):
        self.assertEqual(hull_of(ps((2, 2), (0, 0), (1, 1), (0, 0))).corners, ps((0, 0), (2, 2)))
        self.assertEqual(hull_of(ps((0, 3), (0, -1), (0, 1), (0, 3))).corners, ps((0, -1), (0, 3)))
        self.assertEqual(hull_of(ps((3, 1), (-2, 1), (0, 1))).corners, ps((-2, 1), (3, 1)))
        self.assertEqual(hull_of(ps((1, 0), (0, 1))).corners, ps((0, 1), (1, 0)))

    def test_of_the_corners_of_a_patch(self):
        for shape in SHAPES:
            self.assertEqual(hull_of(shape.corners), shape)
            self.assertEqual(hull_of([list(corner) for corner in shape.corners]), shape)
            for one, other in shape.sides:
                self.assertEqual(hull_of((*shape.corners, shape.middle, hull_of([one, other]).middle)), shape)

    def test_in_any_order_and_number(self):
        picks = source(41)
        for _ in range(200):
            places = some_places(picks, picks.randint(1, 9), 3, (1, 1, 2))
            before = list(places)
            hull = hull_of(places)
            self.assertEqual(places, before)
            self.assertTrue(is_told_as_patch(hull.corners))
            self.assertTrue(set(hull.corners) <= set(places))
            self.assertTrue(all(holds(hull.corners, place) for place in places))
            shuffled = places + places[:3]
            picks.shuffle(shuffled)
            self.assertEqual(hull_of(tuple(list(place) for place in shuffled)), hull)

    def test_long_numbers(self):
        far, near = 10 ** 299, Fraction(1, LONG)
        corners = ps((-far, 0), (0, -near), (far, 0), (0, near))
        self.assertEqual(hull_of(corners[::-1] + ps((0, 0), (far - 1, 0))).corners, corners)

    def test_three_places_that_are_all_but_along_one_line(self):
        picks, turns = source(143), set()
        for _ in range(600):
            # On the line, about as near to it as 2 ** -64, or much nearer, whatever the way and the length of the steps.
            tiny = picks.choice([0, Fraction(1, 2 ** picks.choice([62, 64, 65, 66, 68, 300]))])
            dx, dy = [Fraction(picks.randint(-900, 900), picks.choice([1, 3, 7])) for _ in "xy"]
            places = [p(k * dx + tiny * picks.randint(-9, 9), k * dy + tiny * picks.randint(-9, 9)) for k in (-1, picks.choice([0, Fraction(1, 3)]), 2)]
            told = hull_of(places)
            self.assertTrue(is_told_as_patch(told.corners))
            self.assertTrue(all(holds(told.corners, place) for place in places))
            self.assertEqual(len(told), 3 if cross(*places) else min(2, len(set(places))))
            turns.add((cross(*places) > 0) - (cross(*places) < 0))
        self.assertEqual(turns, {1, 0, -1})

    def test_places_that_are_all_but_one_place(self):
        picks = source(144)
        for _ in range(200):
            tiny, far = Fraction(1, 2 ** picks.choice([60, 63, 64, 65, 70, 400])), picks.choice([0, Fraction(1, 3), -7])
            places = [p(far + tiny * picks.randint(-2, 2), picks.choice([1, far]) + tiny * picks.randint(-3, 3)) for _ in range(picks.randint(1, 9))]
            told = hull_of(places)
            self.assertTrue(is_told_as_patch(told.corners))
            self.assertTrue(set(told.corners) <= set(places))
            self.assertTrue(all(holds(told.corners, place) for place in places))

    def test_corner_patches(self):
        for shape in SHAPES:
            told = corner_patches(shape)
            self.assertIs(type(told), tuple)
            self.assertEqual(told, tuple(Patch((corner,)) for corner in shape.corners))

    def test_whole_corners(self):
        self.assertEqual(whole_corners([]), ((), 1))
        self.assertEqual(whole_corners(()), ((), 1))
        self.assertEqual(whole_corners([SQUARE]), ((((0, 0), (2, 0), (2, 2), (0, 2)),), 1))
        rows, bottom = whole_corners((POINT, patch(("1/3", 0), (1, "3/4")), SQUARE, POINT))
        self.assertEqual(bottom, 12)
        self.assertEqual(rows, (((6, -36),), ((4, 0), (12, 9)), ((0, 0), (24, 0), (24, 24), (0, 24)), ((6, -36),)))
        self.assertTrue(all(type(row) is tuple and type(couple) is tuple for row in rows for couple in row))

    def test_the_least_bottom(self):
        self.assertEqual(whole_corners([patch(("1/6", "1/4"))]), ((((2, 3),),), 12))
        self.assertEqual(whole_corners([patch(("1/6", 0)), patch((0, "-1/10"))]), ((((5, 0),), ((0, -3),)), 30))
        far = lcm(LONG, LONGER)
        self.assertEqual(whole_corners([Patch([((1, LONGER), (1, LONG))])]), ((((far // LONGER, far // LONG),),), far))


class Amounts(unittest.TestCase):
    def test_reach_low_and_breadth(self):
        self.assertEqual(reach_of(TRIANGLE, (1, 1)), r(4))
        self.assertEqual(low_of(TRIANGLE, [1, 1]), r(0))
        self.assertEqual(breadth_of(TRIANGLE, (3, 4)), r(12))
        self.assertEqual(reach_of(POINT, (2, 1)), r(-2))
        self.assertEqual(breadth_of(POINT, (2, 1)), ZERO)
        self.assertEqual(breadth_of(patch((0, 0), ("1/2", 0)), [1, 0]), HALF)
        for shape in SHAPES:
            for way in DIRECTIONS:
                amounts = [amount(way, corner) for corner in shape.corners]
                for given in (way, list(way)):
                    self.assertEqual(reach_of(shape, given), r(max(amounts)))
                    self.assertEqual(low_of(shape, given), r(min(amounts)))
                    self.assertEqual(breadth_of(shape, given), r(max(amounts) - min(amounts)))

    def test_touched(self):
        self.assertEqual(touched_by(SQUARE, (1, 1)), patch((2, 2)))
        self.assertEqual(touched_by(SQUARE, (1, 0)), patch((2, 0), (2, 2)))
        self.assertEqual(touched_by(SQUARE, [-1, 0]), patch((0, 0), (0, 2)))
        self.assertEqual(touched_by(SQUARE, (0, -1)), patch((0, 0), (2, 0)))
        self.assertEqual(touched_by(STRETCH, (1, 2)), STRETCH)
        self.assertEqual(touched_by(STRETCH, (-1, -2)), STRETCH)
        self.assertEqual(touched_by(STRETCH, (2, -1)), patch((3, 0)))
        self.assertEqual(touched_by(POINT, (5, 3)), POINT)

    def test_touched_along_each_direction(self):
        for shape in SHAPES:
            for way in DIRECTIONS:
                reach = max(amount(way, corner) for corner in shape.corners)
                touching = [corner for corner in shape.corners if amount(way, corner) == reach]
                self.assertEqual(set(touched_by(shape, way).corners), set(touching))


class Halves(unittest.TestCase):
    def test_of_a_polygon(self):
        self.assertEqual(halves_of(SQUARE), (((0, -1), r(0)), ((1, 0), r(2)), ((0, 1), r(2)), ((-1, 0), r(0))))
        self.assertEqual(halves_of(TRIANGLE), (((0, -1), r(0)), ((3, 4), r(12)), ((-1, 0), r(0))))
        for shape in (SQUARE, TRIANGLE, HEXAGON):
            halves = halves_of(shape)
            self.assertEqual([way for way, _ in halves], [side_normal(a, b) for a, b in shape.sides])
            self.assertEqual([end for _, end in halves], [reach_of(shape, way) for way, _ in halves])

    def test_of_a_stretch(self):
        told = (((-1, -2), r(-3)), ((1, 2), r(3)), ((2, -1), r(6)), ((-2, 1), r(4)))
        self.assertEqual(halves_of(STRETCH), told)
        self.assertEqual(halves_of(UPRIGHT), (((1, 0), r(1)), ((-1, 0), r(-1)), ((0, 1), r(5)), ((0, -1), r(1))))

    def test_of_a_place(self):
        self.assertEqual(halves_of(POINT), (((1, 0), HALF), ((0, 1), r(-3)), ((-1, 0), r("-1/2")), ((0, -1), r(3))))

    def test_they_tell_just_the_patch(self):
        for shape in SHAPES:
            halves = halves_of(shape)
            self.assertIs(type(halves), tuple)
            for place in grid(-4, 6):
                in_all = all(amount(way, place) <= Fraction(*end) for way, end in halves)
                self.assertIs(in_all, holds(shape.corners, place))


if __name__ == "__main__":
    unittest.main()
