"""[6.8] and [6.9] Spaces and distances of pairs."""

import unittest
from fractions import Fraction

from feltstone.cases import Case
from feltstone.errors import BadAmount, BadDirection, NoStones, NotMet
from feltstone.meeting import MayMeet, SurelyMeet, meeting
from feltstone.patches import Patch
from feltstone.spaces import (
    Farthest, distance_range, farthest_fault, farthest_pair, nearest_places, pair_of_space, space_range, square_between,
)
from tests.made_cases import (
    AT_CORNER, BESIDE, BOX, FAR, FIVE, HIGH, NOTHING, ONE_PLACE, SMALL, TABLE, THREE_PLACES, WIDE, fits, greatest_least,
    least_greatest, lot_of, lowest, meet, pairs_of_cases, stones_in, twelve_facts,
)
from tests.makers import DIRECTIONS, HEXAGON, JUNK, SHAPES, SQUARE, holds, meets, number, numbers, p, patch, r, source, within
from tests.test_critical import NO_WAYS
from tests.test_evens import some_patches
from tests.test_meeting import low, reach
from tests.test_reaches import NEAR, NO_AMOUNTS
from tests.test_sums import SURE, ways_of
from tests.test_sure import NO_STONES

PAIRS = pairs_of_cases(40, 451) + SURE
POINTS = [Case(TABLE, [meets((x, y)), within(0, 1, y)]) for x, y in ((0, 0), (3, 4))]


def square(step):
    return step[0] * step[0] + step[1] * step[1]


def near_side(place, one, other):
    """The square of the distance of a place and a stretch, or of a place and a place."""
    (px, py), (ax, ay), (bx, by) = place, one, other
    length = square((bx - ax, by - ay))
    share = 0 if length == 0 else Fraction((px - ax) * (bx - ax) + (py - ay) * (by - ay)) / length
    share = max(Fraction(0), min(Fraction(1), share))
    return square((px - ax - share * (bx - ax), py - ay - share * (by - ay)))


def least_square(one, other):
    """The square of the distance of two patches, by all corners of each and all sides of the other."""
    if meet(one.corners, other.corners):
        return 0
    found = []
    for first, second in ((one, other), (other, one)):
        corners = [numbers(corner) for corner in second.corners]
        for place in map(numbers, first.corners):
            found += [near_side(place, a, b) for a, b in zip(corners, corners[1:] + corners[:1])]
    return min(found)


def greatest_square(case, other):
    """The greatest square by the directions that [6.9] tells, or None."""
    one, two = lot_of(case), lot_of(other)
    ways, best = {*ways_of(case), *ways_of(other)}, None
    for ax, ay in {numbers(corner) for lot in one for corner in lot.corners}:
        for bx, by in {numbers(corner) for lot in two for corner in lot.corners}:
            if (ax, ay) != (bx, by):
                ways.add(lowest(bx - ax, by - ay))
    for way in ways:
        space = least_greatest(two, way) - greatest_least(one, way)
        if space > 0:
            best = max(best or 0, Fraction(space * space) / square(way))
    return best


def shares(ends):
    one, two = map(number, ends)
    return [one + (two - one) * share for share in (0, Fraction(1, 9), Fraction(1, 2), Fraction(19, 20), 1)]


class Spaces(unittest.TestCase):
    def test_example(self):
        self.assertEqual(space_range(case=WIDE, other=HIGH, direction=(1, 0)), (r(-4), r(0)))
        self.assertEqual(space_range(WIDE, HIGH, [0, 1]), (r(-4), r(0)))

    def test_ranges(self):
        picks = source(452)
        for case, other in PAIRS[::2]:
            for way in DIRECTIONS[:7]:
                told = space_range(case, other, way)
                least = low(other.whole, way) - reach(case.whole, way)
                most = least_greatest(lot_of(other), way) - greatest_least(lot_of(case), way)
                self.assertEqual(told, (r(least), r(most)))
                self.assertEqual(space_range(case, other, list(way)), told)
                for one, two in zip(stones_in(case, picks, 2), stones_in(other, picks, 2)):
                    self.assertTrue(least <= low(two, way) - reach(one, way) <= most)

    def test_each_space(self):
        for case, other in PAIRS[::2]:
            for way in DIRECTIONS[:7]:
                for space in shares(space_range(case, other, way)):
                    told = pair_of_space(case=case, other=other, direction=way, amount=r(space))
                    self.assertIs(type(told), tuple)
                    one, two = told
                    self.assertTrue(fits(case, one))
                    self.assertTrue(fits(other, two))
                    self.assertEqual(low(two, way) - reach(one, way), space)
        one, two = pair_of_space(FIVE, BOX, [1, 1], r(-3))
        self.assertEqual(low(two, (1, 1)) - reach(one, (1, 1)), -3)

    def test_just_outside(self):
        for case, other in PAIRS[::9]:
            for way in DIRECTIONS[:5]:
                least, most = map(number, space_range(case, other, way))
                for space in (least - NEAR, most + NEAR, least - 50, most + 50):
                    with self.assertRaises(NotMet):
                        pair_of_space(case, other, way, r(space))

    def test_each_error_ahead_of_each_later_one(self):
        couples = [(BOX, FIVE), (NO_STONES[0], BOX), (BOX, NO_STONES[0])]
        for case, other in couples:
            for way in NO_WAYS:
                with self.assertRaises(BadDirection):
                    space_range(case, other, way)
                for space in (None, r(1000), r(0)):
                    with self.assertRaises(BadDirection):
                        pair_of_space(case, other, way, space)
            for space in NO_AMOUNTS:
                with self.assertRaises(BadAmount):
                    pair_of_space(case, other, (1, 0), space)
        for case, other in couples[1:]:
            for space in (r(1000), r(0)):
                with self.assertRaises(NoStones):
                    pair_of_space(case, other, (1, 0), space)
        with self.assertRaises(NotMet):
            pair_of_space(BOX, FIVE, (1, 0), r(1000))

    def test_exchanged_and_led_along(self):
        for case, other in PAIRS[::7]:
            for x, y in DIRECTIONS[:6]:
                told = space_range(case, other, (x, y))
                self.assertEqual(space_range(other, case, (-x, -y)), told)
                self.assertEqual(space_range(case.turned(), other.turned(), (-y, x)), told)
                self.assertEqual(space_range(case.mirrored(), other.mirrored(), (-x, y)), told)
                self.assertEqual(space_range(case.shifted(p(3, -1)), other.shifted(p(3, -1)), (x, y)), told)
                grown = space_range(case.grown(r(2)), other.grown(r(2)), (x, y))
                self.assertEqual(grown, tuple(r(2 * number(end)) for end in told))


class Distances(unittest.TestCase):
    def test_square_between(self):
        picks = source(453)
        shapes = SHAPES + some_patches(454, 15)
        shapes += [moved(one, picks.randint(-9, 9), picks.randint(-9, 9)) for one in shapes]
        for one in shapes:
            for other in shapes[::2]:
                self.assertEqual(number(square_between(one=one, other=other)), least_square(one, other))

    def test_kinds_of_nearness(self):
        rows = [
            (SQUARE, patch((5, 6), (7, 6), (6, 9)), 25), (SQUARE, patch((3, 1), (4, 0), (4, 2)), 1), (SQUARE, patch((2, 2), (3, 3)), 0),
            (SQUARE, patch((4, 0), (5, 0), (5, 2), (4, 2)), 4), (SQUARE, patch((2, 0), (3, 0), (3, 2), (2, 2)), 0), (SQUARE, SQUARE, 0),
            (patch((0, 0)), patch((3, 4)), 25), (patch((0, 0)), patch((0, 0)), 0), (patch((0, 0)), patch((-5, 1), (5, 1)), 1),
            (patch((0, 0), (1, 0)), patch((2, 0), (3, 0)), 1), (patch((0, 0), (4, 0)), patch((1, 1), (2, 1)), 1),
            (patch((0, 0), (2, 0)), patch((1, 0), (3, 0)), 0), (patch((0, 0), (0, 2)), patch((1, 3), (2, 3)), 2),
            (HEXAGON, patch((0, 0)), 0), (patch((0, 0), (2, 2)), patch((2, 0)), 2), (SQUARE, patch((3, 3), (9, 9)), 2),
            (patch((0, 0), (3, 1)), patch((3, 0), (6, 1)), "9/10"),
        ]
        for one, other, due in rows:
            self.assertEqual(square_between(one, other), r(due))
            self.assertEqual(square_between(other, one), r(due))

    def test_it_raises_nothing(self):
        far = patch((10 ** 300, 10 ** 299))
        self.assertEqual(square_between(far, patch((0, 10 ** 299))), r(10 ** 600))

    def test_least_over_all_pairs(self):
        picks = source(455)
        for case, other in PAIRS:
            least, most = distance_range(case=case, other=other)
            self.assertEqual(number(least), least_square(case.whole, other.whole))
            place, target = nearest_places(case=case, other=other)
            self.assertIs(type(nearest_places(case, other)), tuple)
            self.assertTrue(type(place) is tuple and type(target) is tuple)
            self.assertTrue(holds(case.whole.corners, place) and holds(other.whole.corners, target))
            (ax, ay), (bx, by) = numbers(place), numbers(target)
            self.assertEqual(square((bx - ax, by - ay)), number(least))
            for one, two in zip(stones_in(case, picks, 2), stones_in(other, picks, 2)):
                self.assertTrue(number(least) <= least_square(one, two) <= number(most))

    def test_one_common_place_twice(self):
        for case, other in ((BOX, BOX), (BOX, BESIDE), (BOX, AT_CORNER), (ONE_PLACE, THREE_PLACES), (WIDE, HIGH)):
            place, target = nearest_places(case, other)
            self.assertEqual(place, target)
        self.assertEqual(nearest_places(BOX, AT_CORNER), (p(4, 2), p(4, 2)))
        self.assertEqual(nearest_places(ONE_PLACE, FAR.shifted(p(0, 0))), (p(1, 1), p(20, 1)))

    def test_greatest(self):
        seen = set()
        for case, other in PAIRS:
            due = greatest_square(case, other)
            self.assertEqual(number(distance_range(case, other)[1]), due or 0)
            self.assertIs(due is None, type(meeting(case, other)) is SurelyMeet)
            seen.add(due is None)
        self.assertEqual(seen, {True, False})

    def test_some(self):
        self.assertEqual(distance_range(POINTS[0], POINTS[1]), (r(0), r(25)))
        self.assertEqual(distance_range(WIDE, HIGH), (r(0), r(0)))
        self.assertEqual(distance_range(SMALL, FAR)[0], r(19 * 19))
        self.assertEqual(distance_range(NOTHING, NOTHING), (r(0), r(648)))


def moved(one, x, y):
    return Patch([p(numbers(corner)[0] + x, numbers(corner)[1] + y) for corner in one.corners])


def is_right(case, other, told):
    due = greatest_square(case, other)
    if due is None or told is None:
        return due is None and told is None
    if type(told) is not Farthest or not fits(case, told.one) or not fits(other, told.other):
        return False
    space = low(told.other, told.direction) - reach(told.one, told.direction)
    return space > 0 and Fraction(space * space) / square(told.direction) == number(told.square) == due


class FarthestPair(unittest.TestCase):
    def test_wholly(self):
        seen = set()
        for case, other in PAIRS:
            told = farthest_pair(case=case, other=other)
            self.assertTrue(is_right(case, other, told))
            self.assertIsNone(farthest_fault(case=case, other=other, told=told))
            if told is not None:
                # Along no other direction are they farther apart.
                self.assertEqual(number(told.square), least_square(told.one, told.other))
                self.assertIs(type(told.direction), tuple)
                towards = [(numbers(a), numbers(b)) for a in told.one.corners for b in told.other.corners]
                seen.add(any(lowest(b[0] - a[0], b[1] - a[1]) == told.direction for a, b in towards if a != b))
        self.assertEqual(seen, {True, False})

    def test_none_where_every_pair_meets(self):
        for case, other in ((WIDE, HIGH), (BOX, BOX), (ONE_PLACE, THREE_PLACES)):
            self.assertIsNone(farthest_pair(case, other))
            self.assertIs(type(meeting(case, other)), SurelyMeet)

    def test_led_along(self):
        for case, other in PAIRS[::8]:
            told = farthest_pair(case, other)
            self.assertEqual(farthest_pair(other, case) and farthest_pair(other, case).square, told and told.square)
            for lead, size in ((lambda one: one.shifted(p(3, "-1/2")), 1), (lambda one: one.turned(), 1),
                               (lambda one: one.mirrored(), 1), (lambda one: one.grown(r(3)), 9)):
                later = farthest_pair(lead(case), lead(other))
                self.assertTrue(is_right(lead(case), lead(other), later))
                self.assertEqual(later and number(later.square), told and number(told.square) * size)


class FarthestFault(unittest.TestCase):
    CASE, OTHER = Case(TABLE, [meets((0, 0))]), Case(TABLE, [meets((3, 4), (3, 9))])

    def told(self, square_told=None, way=None, one=None, two=None):
        right = farthest_pair(self.CASE, self.OTHER)
        return farthest_fault(self.CASE, self.OTHER, Farthest(
            right.square if square_told is None else square_told, right.direction if way is None else way,
            right.one if one is None else one, right.other if two is None else two))

    def test_right_ones(self):
        right = farthest_pair(self.CASE, self.OTHER)
        self.assertEqual((right.square, right.direction), (r(90), (1, 3)))
        self.assertIsNone(self.told())
        self.assertIsNone(self.told(way=[1, 3]))
        self.assertIsNone(farthest_fault(WIDE, HIGH, None))

    def test_kind(self):
        for thing in JUNK[1:] + [MayMeet((1, 3), SQUARE, SQUARE), (r(90), (1, 3), SQUARE, SQUARE), Farthest]:
            for case, other in ((self.CASE, self.OTHER), (WIDE, HIGH)):
                self.assertEqual(farthest_fault(case, other, thing), "kind")

    def test_direction(self):
        for way in NO_WAYS:
            if way is not None:
                self.assertEqual(self.told(way=way), "direction")
                self.assertEqual(self.told(way=way, one=HEXAGON.corners), "direction")
        self.assertEqual(farthest_fault(WIDE, HIGH, Farthest(None, None, None, None)), "direction")

    def test_one_and_other(self):
        wrong = [thing for thing in JUNK if thing is not None] + [SQUARE.corners, [SQUARE], patch((0, 1)), patch((0, 0), (10, 0)), HEXAGON.corners]
        for thing in wrong:
            self.assertEqual(self.told(one=thing), "one")
            self.assertEqual(self.told(one=thing, two=thing, square_told=1), "one")
            self.assertEqual(self.told(two=thing), "other")
            self.assertEqual(self.told(two=thing, square_told=1), "other")
        self.assertEqual(farthest_fault(self.CASE, self.OTHER, Farthest(r(90), (1, 3), None, None)), "one")
        self.assertEqual(farthest_fault(self.CASE, self.OTHER, Farthest(r(90), (1, 3), patch((0, 0)), None)), "other")

    def test_square(self):
        for wrong in [thing for thing in JUNK if thing is not None] + [90, r(89), r(91), (180, 2), [90, 1], (90, True), (90.0, 1), r(-90), r(0)]:
            self.assertEqual(self.told(square_told=wrong), "square")
        self.assertEqual(self.told(way=(0, 1)), "square")
        # The space is 0, or below 0.
        self.assertEqual(self.told(r(0), (3, -1)), "square")
        self.assertEqual(self.told(r(90), (-1, -3)), "square")
        self.assertEqual(self.told(r(0), (1, 0), patch((0, 0), (3, 0))), "square")

    def test_less(self):
        self.assertEqual(farthest_fault(self.CASE, self.OTHER, None), "less")
        self.assertEqual(farthest_fault(self.CASE, self.OTHER, Farthest(r(81), (0, 1), patch((0, 0)), patch((3, 9)))), "less")
        self.assertEqual(self.told(r(25), (3, 4), two=patch((3, 4))), "less")
        for case, other in ((SMALL, FAR), (NOTHING, NOTHING), (WIDE, WIDE)):
            self.assertEqual(farthest_fault(case, other, None), "less")

    def test_where_every_pair_meets_no_space_is_right(self):
        for way in DIRECTIONS:
            self.assertEqual(farthest_fault(WIDE, HIGH, Farthest(r(0), way, WIDE.whole, HIGH.whole)), "square")


class Results(unittest.TestCase):
    def test_farthest(self):
        given = [r(1), [1], SQUARE, HEXAGON]
        names = ["square", "direction", "one", "other"]
        told = Farthest(**dict(zip(names, given)))
        self.assertEqual([getattr(told, name) for name in names], given)
        self.assertTrue(told == Farthest(*given))
        for other in [Farthest(*given[:k], None, *given[k + 1:]) for k in range(4)] + [None, tuple(given), MayMeet([1], SQUARE, HEXAGON)]:
            self.assertFalse(told == other)
            self.assertTrue(told != other)
        for thing in JUNK:
            kept = Farthest(*[thing] * 4)
            self.assertTrue(all(getattr(kept, name) is thing for name in names))


class ManyFigures(unittest.TestCase):
    def test_twelve_facts(self):
        picks = source(456)
        for figures, every, others in ((60, 1, 2), (60, 0, 1), (150, 3, 0)):
            case, other = twelve_facts(figures, every), twelve_facts(figures, others)
            for second in (other, other.shifted(p(20, 3))):
                told = farthest_pair(case, second)
                self.assertIsNone(farthest_fault(case, second, told))
                least, most = distance_range(case, second)
                self.assertEqual(most, told.square if told else r(0))
                self.assertEqual(number(least), least_square(case.whole, second.whole))
                way = lowest(10 ** 50 + picks.randint(1, 99), 3)
                space = shares(space_range(case, second, way))[2]
                one, two = pair_of_space(case, second, way, r(space))
                self.assertEqual(low(two, way) - reach(one, way), space)


if __name__ == "__main__":
    unittest.main()
