"""[3.6] to [3.8] Sure places, and the example [3.11]."""

import unittest
from fractions import Fraction

from feltstone.cases import Case
from feltstone.errors import BadDirection, BadPlace, NoStones
from feltstone.fitting import misfit
from feltstone.patches import Patch, cut_patch, hull_of
from feltstone.sure import (
    Far, Missed, Sure, farthest_stone, is_sure, missed_fault, sure_fault, sure_of, sure_places, verdict_of,
)
from tests.made_cases import (
    BOX, EMPTY, FIVE, MIXED, NOTHING, SIDES, TABLE, TOO_FAR, TOO_LOW, can_be_parted, cases_with_stones, critical, fits,
    greatest_least, least_greatest, lot_of, place_in, round_key, some_fact, stones_in, twelve_facts,
)
from tests.makers import (
    DIRECTIONS, HEXAGON, JUNK, SQUARE, amount, grid, holds, meets, number, p, patch, ps, r, ruler, source, within,
)
from tests.test_critical import NO_WAYS

NO_STONES = [TOO_FAR, TOO_LOW, Case(TABLE, MIXED), Case(TABLE, EMPTY), Case(TABLE, [meets((20, 0))])]
NO_PLACES = JUNK + [1, (1, 2), ((0, 1),), (r(0), r(0), r(0)), ((2, 4), (0, 1)), ((0, 1), (True, 1)), "00", patch((0, 0)),
                    ((0, 1), 0)]
CALLS = [sure_of, is_sure, verdict_of, lambda case, place: sure_fault(case, place, Sure(None)),
         lambda case, place: missed_fault(case, place, Missed(None, None))]
SURE_OF_FIVE = ps(("12/7", "8/7"), ("8/3", "2/3"), ("32/9", "8/9"), ("24/7", "8/7"), ("24/11", "16/11"))


def surely(case, place):
    """Whether a place is sure, by all critical directions."""
    return not can_be_parted(lot_of(case), [Patch((place,))])


def is_sure_told(case, place, told):
    """Whether a Sure is right, by other means than the judge's."""
    if type(told) is not Sure or type(told.entries) is not tuple or len(told.entries) < 3:
        return False
    ways = [way for way, _ in told.entries]
    keys = [round_key(way) for way in ways]
    if sum((behind - key) % 4 for key, behind in zip(keys, keys[1:] + keys[:1])) != 4:
        return False
    for k, (way, one) in enumerate(told.entries):
        behind = ways[(k + 1) % len(ways)]
        lows = [greatest_least([case.patch_at(one)], along) - amount(along, place) for along in (way, behind)]
        if way[0] * behind[1] - way[1] * behind[0] <= 0 or min(lows) < 0:
            return False
    return True


def is_missed_told(case, place, told):
    if type(told) is not Missed or not fits(case, told.stone):
        return False
    return max(amount(told.direction, corner) for corner in told.stone.corners) < amount(told.direction, place)


def places_of(case, picks):
    lot = lot_of(case)
    told = sure_places(case)
    places = [corner for one in lot[:3] for corner in one.corners[:3]] + [place_in(one, picks) for one in lot[:4]]
    places += [p(20, 20), p(0, 0), p("1/2", "-3/2")] + grid(-4, 5, 3)
    return places + ([*told.corners, told.middle, place_in(told, picks)] if told else [])


class SureOf(unittest.TestCase):
    def test_example(self):
        told = sure_of(case=BOX, place=p(2, 1))
        self.assertTrue(is_sure_told(BOX, p(2, 1), told))
        for place in ps((2, "11/10"), ("19/10", 1), (0, 0), (4, 2), (9, 9), (100, 0)):
            self.assertTrue(is_missed_told(BOX, place, sure_of(BOX, place)))
        for place in SURE_OF_FIVE + ps((3, 1)):
            self.assertTrue(is_sure_told(FIVE, place, sure_of(FIVE, list(place))))

    def test_both_results(self):
        picks, sures = source(181), 0
        for case in cases_with_stones(30):
            for place in places_of(case, picks):
                told = sure_of(case, place)
                if surely(case, place):
                    sures += 1
                    self.assertTrue(is_sure_told(case, place, told))
                    self.assertIsNone(sure_fault(case, place, told))
                    self.assertTrue(all(place in stone for stone in stones_in(case, picks, 3)))
                else:
                    self.assertTrue(is_missed_told(case, place, told))
                    self.assertIsNone(missed_fault(case, place, told))
                    self.assertNotIn(place, told.stone)
                self.assertIs(is_sure(case=case, place=place), surely(case, place))
        self.assertGreater(sures, 40)

    def test_the_rim_of_the_sure_places(self):
        near = Fraction(1, 10 ** 30)
        for x, y in SURE_OF_FIVE:
            self.assertIs(is_sure(FIVE, (x, y)), True)
            middle = sure_places(FIVE).middle
            for share, sure in ((-near, False), (near, True)):
                moved = p(number(x) + share * (number(middle[0]) - number(x)), number(y) + share * (number(middle[1]) - number(y)))
                self.assertIs(is_sure(FIVE, moved), sure)

    def test_a_case_without_facts(self):
        for place in ps((0, 0), (9, 9), (10, 0)):
            self.assertTrue(is_missed_told(NOTHING, place, sure_of(NOTHING, place)))

    def test_a_place_that_must_be_touched(self):
        case = Case(TABLE, [meets((1, 2))])
        self.assertTrue(is_sure_told(case, p(1, 2), sure_of(case, p(1, 2))))
        self.assertIs(is_sure(case, p(1, "2000001/1000000")), False)

    def test_verdicts(self):
        rows = [(BOX, (2, 1), "always"), (BOX, (0, 0), "maybe"), (BOX, (4, 2), "maybe"), (BOX, (2, "3/2"), "maybe"),
                (BOX, ("41/10", 1), "never"), (BOX, (-9, -9), "never"), (BOX, (100, 0), "never"), (FIVE, (3, 1), "always"),
                (FIVE, (4, 2), "never"), (FIVE, (4, 1), "maybe"), (NOTHING, (9, 9), "maybe"), (NOTHING, (9, 10), "never")]
        for case, place, told in rows:
            self.assertEqual(verdict_of(case=case, place=p(*place)), told)
            self.assertEqual(verdict_of(case, list(p(*place))), told)
        picks = source(182)
        for case in cases_with_stones(20):
            for place in places_of(case, picks):
                maybe = "maybe" if holds(case.whole.corners, place) else "never"
                self.assertEqual(verdict_of(case, place), "always" if surely(case, place) else maybe)

    def test_errors(self):
        for call in CALLS:
            for thing in NO_PLACES:
                for case in NO_STONES + [BOX]:
                    with self.assertRaises(BadPlace):
                        call(case, thing)
            for case in NO_STONES:
                with self.assertRaises(NoStones):
                    call(case, p(0, 0))


class Results(unittest.TestCase):
    def test_sure(self):
        entries = [((1, 0), 0), ((0, 1), -1)]
        told = Sure(entries=entries)
        self.assertIs(told.entries, entries)
        self.assertEqual((len(told), list(told)), (2, entries))
        self.assertTrue(told == Sure(list(entries)))
        self.assertFalse(told != Sure(list(entries)))
        for other in (Sure(tuple(entries)), Sure(entries[:1]), entries, None, Missed(entries, 1)):
            self.assertFalse(told == other)
            self.assertTrue(told != other)

    def test_missed_and_far(self):
        for kind, names in ((Missed, ("direction", "stone")), (Far, ("amount", "stone"))):
            told = kind(**dict(zip(names, ([1], SQUARE))))
            self.assertEqual([getattr(told, name) for name in names], [[1], SQUARE])
            self.assertTrue(told == kind([1], SQUARE))
            self.assertFalse(told != kind([1], SQUARE))
            other_kind = Far if kind is Missed else Missed
            for other in (kind((1,), SQUARE), kind([1], HEXAGON), other_kind([1], SQUARE), None, ([1], SQUARE)):
                self.assertFalse(told == other)
                self.assertTrue(told != other)
            for thing in JUNK:
                kept = kind(thing, [thing])
                self.assertIs(getattr(kept, names[0]), thing)
                self.assertIs(kept.stone[0], thing)


class SureFault(unittest.TestCase):
    PLACE = p(2, 1)
    # Each ruler's patch is wholly beyond the place along the directions round its own.
    RIGHT = (((1, 0), 0), ((1, 2), 1), ((-1, 2), 2), ((-1, -2), 3), ((1, -2), 0))

    def told(self, entries, case=BOX, place=PLACE):
        return sure_fault(case, place, Sure(entries))

    def test_right_ones(self):
        self.assertIsNone(sure_fault(case=BOX, place=self.PLACE, told=Sure(self.RIGHT)))
        self.assertIsNone(self.told([[list(way), one] for way, one in self.RIGHT], place=list(self.PLACE)))
        for k in range(5):
            self.assertIsNone(self.told(self.RIGHT[k:] + self.RIGHT[:k]))

    def test_entries(self):
        for thing in JUNK + [(), [], self.RIGHT[:1], self.RIGHT[:2], Sure(self.RIGHT), [None] * 2, iter(self.RIGHT),
                             dict(self.RIGHT), "abc", {1, 2, 3}]:
            self.assertEqual(self.told(thing), "entries")

    def test_entry(self):
        wrong = [None, (), (1, 0), ((1, 0),), ((1, 0), 0, 0), ((2, 4), 0), ((0, 0), 0), (None, 0), ((1, 0), 4), ((1, 0), -2),
                 ((1, 0), True), ((1, 0), False), ((1, 0), 0.0), ((1, 0), None), ((1, 0), "0"), (0, (1, 0)), "ab", {0: 0, 1: 1},
                 iter(self.RIGHT[0]), 5, ((1, 0), [0])]
        for thing in JUNK + wrong:
            for k in (0, 2, 4):
                self.assertEqual(self.told(self.RIGHT[:k] + (thing,) + self.RIGHT[k + 1:]), "entry")
        self.assertEqual(self.told([None] * 3), "entry")

    def test_numbers_of_a_within(self):
        case = Case(TABLE, [within(1, 0, 9), meets((0, 0)), within(0, 1, 9)])
        right = (((1, 0), 1), ((-1, 1), 1), ((-1, -1), 1))
        self.assertIsNone(self.told(right, case, p(0, 0)))
        for one in (0, 2, 3):
            self.assertEqual(self.told(right[:2] + (((-1, -1), one),), case, p(0, 0)), "entry")
        self.assertEqual(self.told(right[:2] + (((-1, -1), -1),), case, p(0, 0)), "above")

    def test_the_whole_as_a_patch(self):
        case = Case(TABLE, [ruler(1, 0, 1), within(-1, 0, -1), ruler(0, 1, 2), within(0, -1, -2)])
        ways = ((1, 0), (-1, 1), (-1, -1))
        for one in (-1, 0, 2):
            self.assertIsNone(self.told([(way, one) for way in ways], case, p(1, 2)))
            self.assertEqual(self.told([(way, one) for way in ways], case, p(1, 3)), "above")
        self.assertEqual(self.told([(way, 1) for way in ways], case, p(1, 2)), "entry")

    def test_half_turn(self):
        self.assertEqual(self.told(self.RIGHT[::-1]), "half turn")
        self.assertEqual(self.told(self.RIGHT[:3]), "half turn")
        self.assertEqual(self.told(self.RIGHT + self.RIGHT[:1]), "half turn")
        self.assertEqual(self.told((((1, 0), 0), ((-1, 0), 2), ((0, -1), 3))), "half turn")

    def test_round(self):
        self.assertEqual(self.told(self.RIGHT * 2), "round")
        self.assertEqual(self.told([(way, 0) for way, _ in self.RIGHT] * 3), "round")

    def test_above(self):
        for k, (way, _) in enumerate(self.RIGHT):
            for one in range(-1, 4):
                row = list(self.RIGHT)
                row[k] = (way, one)
                behind = self.RIGHT[(k + 1) % 5][0]
                right = all(greatest_least([BOX.patch_at(one)], along) >= amount(along, self.PLACE) for along in (way, behind))
                self.assertEqual(self.told(row), None if right else "above")
        self.assertEqual(self.told(self.RIGHT, place=p(2, "11/10")), "above")
        self.assertEqual(self.told(self.RIGHT, FIVE, p(2, 1)), None)


class MissedFault(unittest.TestCase):
    PLACE = p(2, "3/2")
    STONE = patch((0, 0), (4, 0), (0, 2))
    UPPER = patch((0, 0), (4, 2))

    def told(self, direction=(1, 2), stone=UPPER, case=BOX, place=PLACE):
        return missed_fault(case, place, Missed(direction, stone))

    def test_right_ones(self):
        self.assertIsNone(missed_fault(case=BOX, place=self.PLACE, told=Missed((1, 2), self.STONE)))
        self.assertIsNone(self.told([1, 2], self.STONE, place=list(self.PLACE)))
        self.assertIsNone(self.told((-1, 2)))
        self.assertIsNone(self.told((1, 0), place=p("41/10", 0)))

    def test_direction(self):
        for way in NO_WAYS:
            self.assertEqual(self.told(way), "direction")
            self.assertEqual(self.told(way, None), "direction")

    def test_stone(self):
        for thing in JUNK + [self.STONE.corners, [self.STONE], BOX, Missed((1, 2), self.STONE)]:
            self.assertEqual(self.told(stone=thing), "stone")

    def test_fits(self):
        for stone in (patch((0, 0)), patch((0, 0), (4, 0)), patch((-10, 0), (4, 0), (0, 2)), patch((0, 0), (5, 0), (0, 2)),
                      patch((0, -1), (4, 0), (0, 2))):
            self.assertEqual(self.told(stone=stone), "fits")
            self.assertEqual(self.told((-1, -2), stone), "fits")

    def test_below(self):
        self.assertEqual(self.told((1, 2)), "below")
        self.assertEqual(self.told((-1, -2), self.STONE), "below")
        self.assertEqual(self.told((1, 2), self.STONE, place=p(2, 1)), "below")
        self.assertIsNone(self.told((1, 2), self.STONE, place=p(2, "1001/1000")))
        self.assertEqual(self.told((1, 0), self.STONE, place=p(4, 9)), "below")


class SurePlaces(unittest.TestCase):
    def test_example(self):
        self.assertEqual(FIVE.whole, patch((0, 0), (4, 0), (4, 1), (3, 2), (0, 2)))
        self.assertEqual(sure_places(case=FIVE), Patch(SURE_OF_FIVE))
        self.assertEqual(sure_places(BOX), patch((2, 1)))
        self.assertIsNone(sure_places(SIDES))
        self.assertIsNone(sure_places(NOTHING))

    def test_a_place_a_stretch_a_polygon_and_none(self):
        rows = [
            ([meets((1, 2))], patch((1, 2))),
            ([meets((1, 2)), meets((4, 2))], patch((1, 2), (4, 2))),
            ([meets((1, 2)), meets((4, 2)), meets((0, 5))], patch((0, 5), (1, 2), (4, 2))),
            ([meets((1, 2)), meets((4, 2), (5, 2))], patch((1, 2), (4, 2))),
            ([meets((1, 2), (1, 3)), meets((4, 2), (4, 3))], None),
            ([within(-1, -1, -3), within(1, 1, 3), ruler(1, 0, 5), ruler(-1, 0, 1)], patch((-1, 4), (5, -2))),
            ([ruler(1, 0, 2), within(-1, 0, -2)], None),
            ([ruler(1, 0, 2), within(-1, 0, -2), ruler(0, 1, 5)], patch((2, 5))),
            ([ruler(1, 1, 5)], None),
            ([meets((-1, -1), (1, 1)), meets((-1, 1), (1, -1)), meets((0, 0))], patch((0, 0))),
        ]
        for facts, told in rows:
            self.assertEqual(sure_places(Case(TABLE, facts)), told)

    def test_against_all_critical_directions(self):
        found = set()
        for case in cases_with_stones(60):
            lot, left = lot_of(case), case.table.ground
            for way in critical(lot, lot):
                end = least_greatest(lot, way)
                left = left and cut_patch(left, (-way[0], -way[1]), r(-end))
            self.assertEqual(sure_places(case), left)
            found.add(min(3, len(left)) if left else 0)
        self.assertEqual(found, {0, 1, 2, 3})

    def test_places_one_by_one(self):
        for case in cases_with_stones(12):
            told = sure_places(case)
            for place in grid(-3, 4):
                self.assertIs(told is not None and place in told, is_sure(case, place))

    def test_all_stones_that_fit_have_them(self):
        picks = source(183)
        for case in cases_with_stones(30):
            told = sure_places(case)
            for stone in stones_in(case, picks):
                self.assertTrue(told is None or all(corner in stone for corner in told))

    def test_with_more_facts_no_place_is_lost(self):
        picks = source(184)
        for case in cases_with_stones(25):
            more = case.with_fact(some_fact(picks))
            told = sure_places(case)
            if None not in lot_of(more) and told is not None:
                self.assertTrue(all(corner in sure_places(more) for corner in told))

    def test_led_along(self):
        for case in cases_with_stones(20):
            told = sure_places(case)
            turned = sure_places(case.turned())
            self.assertEqual(turned, told and hull_of([((-y[0], y[1]), x) for x, y in told]))

    def test_no_stones(self):
        for case in NO_STONES:
            with self.assertRaises(NoStones):
                sure_places(case)


class FarthestStone(unittest.TestCase):
    def right(self, case, way, told):
        self.assertIsInstance(told, Far)
        self.assertEqual(number(told.amount), least_greatest(lot_of(case), way))
        self.assertIsInstance(told.stone, Patch)
        self.assertTrue(fits(case, told.stone))
        self.assertTrue(all(amount(way, corner) >= number(told.amount) for corner in told.stone))

    def test_example(self):
        told = farthest_stone(case=FIVE, direction=(1, 2))
        self.right(FIVE, (1, 2), told)
        self.assertEqual(told.amount, r(4))
        self.assertEqual(farthest_stone(FIVE, [1, 2]).amount, r(4))

    def test_along_critical_and_other_directions(self):
        for case in cases_with_stones(30):
            for way in DIRECTIONS + critical(lot_of(case), lot_of(case))[:30]:
                self.right(case, way, farthest_stone(case, way))

    def test_no_stone_lies_farther(self):
        picks = source(185)
        for case in cases_with_stones(25):
            for way in DIRECTIONS[:6]:
                far = number(farthest_stone(case, way).amount)
                for stone in stones_in(case, picks):
                    self.assertLessEqual(min(amount(way, corner) for corner in stone), far)

    def test_errors(self):
        for way in NO_WAYS:
            for case in NO_STONES + [BOX]:
                with self.assertRaises(BadDirection):
                    farthest_stone(case, way)
        for case in NO_STONES:
            with self.assertRaises(NoStones):
                farthest_stone(case, (1, 0))


class ManyFigures(unittest.TestCase):
    def test_twelve_facts(self):
        for figures, every in ((40, 0), (40, 2), (40, 1), (150, 3)):
            case = twelve_facts(figures, every)
            self.assertNotIn(None, lot_of(case))
            self.assertEqual(len(case), 12)
            told = sure_places(case)
            if told is not None:
                self.assertTrue(is_sure_told(case, told.middle, sure_of(case, told.middle)))
            for place in (case.whole.corners[0], p(20, 20)):
                self.assertTrue(is_missed_told(case, place, sure_of(case, place)))
            self.assertIsNone(misfit(case, farthest_stone(case, (10 ** 50, 7)).stone))


if __name__ == "__main__":
    unittest.main()
