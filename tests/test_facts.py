"""[2.1] to [2.3] Facts."""

import unittest
from itertools import product

from feltstone.errors import BadFact, BadPlace, BadSize
from feltstone.facts import Meets, Ruler, Within, is_fact, is_kept
from feltstone.patches import Patch, common_patch, grow_patch, hull_of, mirror_patch, shift_patch, turn_patch
from feltstone.ratios import HALF
from tests.makers import (
    DIRECTIONS, HEXAGON, JUNK, POINT, SHAPES, SQUARE, STRETCH, amount, meets, p, patch, ps, r, ruler, some_places, source,
    within,
)

LONG = 10 ** 299 + 1
NO_DIRECTIONS = JUNK + [(0, 0), (2, 4), 1, (1, 0, 0), (1.0, 0), (True, 0), [3, 3], p(1, 0)]
NO_RATIOS = JUNK + [1, 0, 1.0, [1, 1], (2, 4), (1, 0), (1, -1), (True, 1), "1"]
SIXTEEN = Patch(ps(*((k, k * k) for k in range(16))))
SEVENTEEN = Patch(ps(*((k, k * k) for k in range(17))))
FACTS = [within(1, 0, 2), within(-2, 3, "-1/2"), ruler(1, 0, 2), ruler(3, 5, 0), Meets(SQUARE), Meets(STRETCH),
         Meets(POINT), Meets(HEXAGON)]


def refused(case, call, what):
    with case.assertRaises(BadFact) as caught:
        call()
    case.assertEqual(caught.exception.what, what)


class Making(unittest.TestCase):
    def test_within_and_ruler(self):
        for kind in (Within, Ruler):
            given = [2, -3]
            made = kind(direction=given, amount=r("1/2"))
            given[0] = 0
            self.assertEqual((made.direction, made.amount), ((2, -3), HALF))
            self.assertIs(type(made.direction), tuple)
            self.assertEqual(made.half, ((2, -3), HALF))
            self.assertIs(type(made.half), tuple)
            self.assertEqual(kind((0, -1), (-LONG, 2)).half, ((0, -1), (-LONG, 2)))

    def test_words_of_within_and_ruler(self):
        for kind in (Within, Ruler):
            for thing in NO_DIRECTIONS:
                refused(self, lambda: kind(thing, r(1)), "direction")
                refused(self, lambda: kind(thing, None), "direction")
            for thing in NO_RATIOS:
                refused(self, lambda: kind((1, 0), thing), "amount")

    def test_meets(self):
        self.assertEqual(Meets(patch=SQUARE).patch, SQUARE)
        self.assertIsNone(Meets(SQUARE).half)
        for thing in JUNK + [SQUARE.corners, list(SQUARE.corners), Meets(SQUARE), Patch, 1]:
            refused(self, lambda: Meets(thing), "patch")

    def test_16_and_17_corners(self):
        self.assertEqual(Meets(SIXTEEN).patch, SIXTEEN)
        refused(self, lambda: Meets(SEVENTEEN), "patch")

    def test_equality(self):
        again = [within(1, 0, 2), within(-2, 3, "-1/2"), ruler(1, 0, 2), ruler(3, 5, 0), meets(*((0, 0), (2, 0), (2, 2), (0, 2))),
                 Meets(Patch(STRETCH.corners)), Meets(Patch(POINT.corners)), Meets(Patch(HEXAGON.corners))]
        for (k, one), (m, other) in product(enumerate(FACTS), enumerate(again)):
            self.assertIs(one == other, k == m)
            self.assertIs(one != other, k != m)
        for one in FACTS:
            for thing in JUNK + [one.half, getattr(one, "patch", 0), ((1, 0), r(2))]:
                self.assertFalse(one == thing)
                self.assertFalse(thing == one)
        for kind in (Within, Ruler):
            self.assertNotEqual(kind((1, 0), r(2)), kind((1, 0), r(3)))
            self.assertNotEqual(kind((1, 0), r(2)), kind((0, 1), r(2)))

    def test_is_fact(self):
        for fact in FACTS:
            self.assertIs(is_fact(fact), True)
        for thing in JUNK + [Within, Ruler, Meets, SQUARE, ((1, 0), r(1)), 1]:
            self.assertIs(is_fact(thing), False)


class Keeping(unittest.TestCase):
    def test_a_ruler_kept_not_reached_and_passed(self):
        self.assertIs(is_kept(ruler(1, 0, 2), SQUARE), True)
        self.assertIs(is_kept(ruler(1, 0, 3), SQUARE), False)
        self.assertIs(is_kept(ruler(1, 0, "1/2"), SQUARE), False)
        self.assertIs(is_kept(ruler(1, 1, 4), SQUARE), True)
        self.assertIs(is_kept(Ruler((1, 0), (2 * LONG + 1, LONG)), SQUARE), False)

    def test_within(self):
        self.assertIs(is_kept(within(1, 0, 2), SQUARE), True)
        self.assertIs(is_kept(within(1, 0, 3), SQUARE), True)
        self.assertIs(is_kept(within(1, 0, "3/2"), SQUARE), False)
        self.assertIs(is_kept(Within((1, 0), (2 * LONG - 1, LONG)), SQUARE), False)

    def test_meets_with_a_common_rim(self):
        self.assertIs(is_kept(Meets(SQUARE), shift_patch(SQUARE, p(2, 2))), True)
        self.assertIs(is_kept(Meets(SQUARE), shift_patch(SQUARE, p(2, 1))), True)
        self.assertIs(is_kept(Meets(SQUARE), shift_patch(SQUARE, p("5/2", 0))), False)
        self.assertIs(is_kept(Meets(SQUARE), patch((2, 1))), True)
        self.assertIs(is_kept(Meets(patch((1, 1))), SQUARE), True)
        self.assertIs(is_kept(Meets(patch((-1, 1), (3, 1))), SQUARE), True)
        self.assertIs(is_kept(Meets(patch((2, 3), (3, 2))), SQUARE), False)

    def test_each_shape_and_direction(self):
        for shape, way in product(SHAPES, DIRECTIONS):
            reach = max(amount(way, corner) for corner in shape.corners)
            for more in (-1, 0, 1):
                self.assertIs(is_kept(Within(way, r(reach + more)), shape), more >= 0)
                self.assertIs(is_kept(Ruler(way, r(reach + more)), shape), more == 0)
        for shape, other in product(SHAPES, repeat=2):
            self.assertIs(is_kept(Meets(other), shape), common_patch(shape, other) is not None)

    def test_a_stone_of_many_corners(self):
        self.assertIs(is_kept(ruler(1, 0, 16), SEVENTEEN), True)
        self.assertIs(is_kept(fact=meets((8, 64)), stone=SEVENTEEN), True)


class LedAlong(unittest.TestCase):
    def test_examples(self):
        for make in (within, ruler):
            fact = make(1, -2, 3)
            self.assertEqual(fact.shifted(list(p("1/2", 5))), make(1, -2, "-13/2"))
            self.assertEqual(fact.turned(), make(2, 1, 3))
            self.assertEqual(fact.mirrored(), make(-1, -2, 3))
            self.assertEqual(fact.grown(r("2/3")), make(1, -2, 2))
            self.assertEqual(make(1, 0, -2).grown(r(3)), make(1, 0, -6))
        fact = Meets(HEXAGON)
        self.assertEqual(fact.shifted(p("1/2", 5)), Meets(shift_patch(HEXAGON, p("1/2", 5))))
        self.assertEqual(fact.turned(), Meets(turn_patch(HEXAGON)))
        self.assertEqual(fact.mirrored(), Meets(mirror_patch(HEXAGON)))
        self.assertEqual(fact.grown(r("2/3")), Meets(grow_patch(HEXAGON, r("2/3"))))

    def test_stones_led_along_keep_them_exactly_if_they_kept_the_old_ones(self):
        picks = source(61)
        step, size = p("-7/3", "5/2"), r("3/5")
        stones = SHAPES + [hull_of(some_places(picks, picks.randint(1, 5), 3)) for _ in range(30)]
        facts = FACTS + [ruler(*way, reach) for way in DIRECTIONS for reach in (1, 2)]
        seen = set()
        for fact, stone in product(facts, stones):
            kept = is_kept(fact, stone)
            seen.add(kept)
            for led, moved in ((fact.shifted(step), shift_patch(stone, step)), (fact.turned(), turn_patch(stone)),
                               (fact.mirrored(), mirror_patch(stone)), (fact.grown(size), grow_patch(stone, size))):
                self.assertIs(type(led), type(fact))
                self.assertIs(is_kept(led, moved), kept)
        self.assertEqual(seen, {True, False})

    def test_the_old_fact_stays(self):
        halves = [(fact.half, getattr(fact, "patch", None)) for fact in FACTS]
        for fact in FACTS:
            for other in (fact.shifted(p(1, 1)), fact.turned(), fact.mirrored(), fact.grown(r(2))):
                self.assertIsNot(other, fact)
        self.assertEqual([(fact.half, getattr(fact, "patch", None)) for fact in FACTS], halves)

    def test_errors(self):
        for fact in FACTS:
            for thing in JUNK + [1, (1, 1), (r(1),), (r(1), 1), (r(1), r(1), r(1)), ([1, 1], r(1)), ((2, 4), r(1))]:
                with self.assertRaises(BadPlace):
                    fact.shifted(thing)
            for thing in NO_RATIOS + [r(0), r(-1), r("-1/2")]:
                with self.assertRaises(BadSize):
                    fact.grown(thing)


if __name__ == "__main__":
    unittest.main()
