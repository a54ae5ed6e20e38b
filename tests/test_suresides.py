"""[3.9] to [3.11] Sides that have just the sure places above them, and stones that have no place in common."""

import unittest
from fractions import Fraction
from itertools import combinations, permutations

from feltstone.cases import Case
from feltstone.errors import NoStones
from feltstone.patches import Patch, common_patch
from feltstone.sure import Far, farthest_stone, sure_places
from feltstone.suresides import Side, apart_fault, sides_fault, stones_apart, sure_sides
from tests.made_cases import (
    BOX, FIVE, NOTHING, SIDES, TABLE, can_be_parted, cases_with_stones, critical, fits, greatest_least, least_greatest, lot_of,
    lowest, meet, round_key, twelve_facts,
)
from tests.makers import HEXAGON, JUNK, SQUARE, amount, holds, meets, number, numbers, p, patch, r, ruler, within
from tests.test_critical import NO_WAYS
from tests.test_sure import NO_STONES

# Two stones that fit may stand at the left and at the right end; the sure places are none.
LEFT_RIGHT = Case(TABLE, [meets((0, 0), (0, 9)), meets((5, 0), (5, 9))])
ON_A_LINE = Case(TABLE, [meets((1, 2)), meets((4, 2))])
ON_A_SLOPE = Case(TABLE, [meets((1, 2), (2, 4)), meets((0, 0), (1, 2)), within(2, -1, 0), within(-2, 1, 0), meets((-3, -6)),
                          meets((3, 6))])
# An end of the sure stretch lies on slanted lines alone, and not on the one straight across it.
SLANTED_END = Case(TABLE, [meets((-5, 2), (-1, 0), (0, 5)), meets((-4, -1)), meets((-5, -4))])
# Two stones that fit may stand apart, but not along an axis.
APART_ON_A_SLOPE = Case(TABLE, [meets((-3, 4), (-1, -5), (5, 2)), meets((3, 4), (5, 5)), meets((-1, 1), (4, 1), (2, 3)),
                                meets((-4, 5), (1, 2), (0, 4))])
CORNER_ALONE = Case(TABLE, [meets((2, 3))])
LINE = Case(TABLE, [within(-1, -1, -3), within(1, 1, 3), ruler(1, 0, 5), ruler(-1, 0, 1)])


def crossing(one, other):
    """The place at which the lines of two halves cross, or None."""
    (ax, ay), a = one
    (bx, by), b = other
    turn = ax * by - ay * bx
    return None if turn == 0 else (Fraction(a * by - ay * b, 1) / turn, Fraction(ax * b - a * bx, 1) / turn)


def above_all(floors, place):
    return all(way[0] * place[0] + way[1] * place[1] >= low for way, low in floors)


def lot_above(floors):
    """What is at or above all floors: "none", "far" for what goes on without an end, else the set of its corners."""
    floors = [(way, number(low)) for way, low in floors]
    if all(one[0] * two[1] == one[1] * two[0] for (one, _), (two, _) in combinations(floors, 2)):
        lows = [low / abs(way[0] or way[1]) * (1 if way > (0, 0) else -1) for way, low in floors]
        ups = [low for (way, _), low in zip(floors, lows) if way > (0, 0)]
        downs = [low for (way, _), low in zip(floors, lows) if way < (0, 0)]
        return "none" if ups and downs and max(ups) > min(downs) else "far"
    corners = {crossing(one, two) for one, two in combinations(floors, 2)} - {None}
    corners = {place for place in corners if above_all(floors, place)}
    if not corners:
        return "none"
    ways = [sign for (x, y), _ in floors for sign in ((-y, x), (y, -x))]
    if any(above_all([(way, 0) for way, _ in floors], step) for step in ways):
        return "far"
    return corners


def lot_of_patch(one):
    return "none" if one is None else {numbers(corner) for corner in one.corners}


def floors_told(sides):
    return [(side.direction, side.amount) for side in sides]


def is_right(case, sides):
    """Whether sides are right, by other means than the judge's."""
    if type(sides) is not tuple or not all(type(side) is Side and type(side.direction) is tuple for side in sides):
        return False
    for side in sides:
        if not fits(case, side.stone):
            return False
        if min(amount(side.direction, corner) for corner in side.stone.corners) < number(side.amount):
            return False
    keys = [round_key(side.direction) for side in sides]
    floors, sure = floors_told(sides), lot_of_patch(sure_places(case))
    if keys != sorted(set(keys)) or lot_above(floors) != sure:
        return False
    return all(lot_above(floors[:k] + floors[k + 1:]) != sure for k in range(len(floors)))


def all_critical_sides(case):
    lot = lot_of(case)
    return [Side(way, r(least_greatest(lot, way)), farthest_stone(case, way).stone) for way in critical(lot, lot)]


class SureSides(unittest.TestCase):
    def test_wholly_against_the_sure_places(self):
        many = {}
        own = [LEFT_RIGHT, ON_A_LINE, ON_A_SLOPE, CORNER_ALONE, LINE, SLANTED_END, APART_ON_A_SLOPE]
        for case in cases_with_stones(90, 301) + own:
            sides, sure = sure_sides(case), sure_places(case)
            self.assertTrue(is_right(case, sides))
            self.assertIsNone(sides_fault(case, sides))
            many.setdefault(None if sure is None else min(3, len(sure)), set()).add(len(sides))
            if sure is not None and len(sure) > 2:
                self.assertEqual(len(sides), len(sure))
        self.assertEqual(many[None], {2, 3})
        self.assertEqual(many[1], {3, 4})
        self.assertEqual(many[2], {4})
        self.assertIn(3, many)

    def test_example(self):
        sides = sure_sides(case=FIVE)
        ways = [(1, 0), (0, 1), (1, 2), (2, 1), (-1, -1), (-1, -2), (-2, -1)]
        told = {side.direction: side.amount for side in sides}
        self.assertEqual(len(sides), 5)
        self.assertEqual(told[(1, 2)], r(4))
        self.assertTrue(all(way not in told or told[way] == r(least_greatest(lot_of(FIVE), way)) for way in ways))
        self.assertEqual({len(sure_sides(case)) for case in (BOX, ON_A_LINE, ON_A_SLOPE, LINE)}, {4})
        self.assertEqual(len(sure_sides(SIDES)), 3)
        self.assertEqual(len(sure_sides(LEFT_RIGHT)), 2)
        self.assertEqual(len(sure_sides(NOTHING)), 2)

    def test_of_a_polygon_they_lie_along_its_sides(self):
        for case in [FIVE] + cases_with_stones(60, 302):
            sure = sure_places(case)
            if sure is not None and len(sure) > 2:
                for side in sure_sides(case):
                    at = [corner for corner in sure.corners if amount(side.direction, corner) == number(side.amount)]
                    self.assertEqual(len(at), 2)

    def test_of_a_stretch_with_a_slanted_end(self):
        sure, lot = sure_places(SLANTED_END), lot_of(SLANTED_END)
        self.assertEqual(len(sure), 2)
        along = lowest(*[b - a for a, b in zip(*map(numbers, sure.corners))])
        ends = ((along, sure.corners[0]), ((-along[0], -along[1]), sure.corners[1]))
        self.assertTrue(any(least_greatest(lot, way) < amount(way, end) for way, end in ends))
        self.assertTrue(is_right(SLANTED_END, sure_sides(SLANTED_END)))

    def test_of_two_stones_apart_along_no_axis(self):
        lot = lot_of(APART_ON_A_SLOPE)
        self.assertTrue(all(least_greatest(lot, way) <= greatest_least(lot, way) for way in ((1, 0), (0, 1))))
        self.assertTrue(is_right(APART_ON_A_SLOPE, sure_sides(APART_ON_A_SLOPE)))
        self.assertEqual(len(stones_apart(APART_ON_A_SLOPE)), 2)

    def test_the_amount_is_the_greatest_low(self):
        for case in cases_with_stones(30, 303):
            for side in sure_sides(case):
                self.assertLessEqual(number(side.amount), least_greatest(lot_of(case), side.direction))

    def test_led_along(self):
        for case in [FIVE, ON_A_LINE, LINE] + cases_with_stones(15, 304):
            for other in (case.shifted(p("1/2", -3)), case.turned(), case.mirrored(), case.grown(r("2/3"))):
                self.assertTrue(is_right(other, sure_sides(other)))

    def test_no_stones(self):
        for case in NO_STONES:
            with self.assertRaises(NoStones):
                sure_sides(case)


class SidesFault(unittest.TestCase):
    RIGHT = sure_sides(FIVE)

    def test_any_order_and_kind_of_row(self):
        for row in permutations(sure_sides(BOX)):
            self.assertIsNone(sides_fault(BOX, row))
        self.assertIsNone(sides_fault(case=FIVE, told=list(self.RIGHT[::-1])))
        self.assertIsNone(sides_fault(FIVE, [Side(list(side.direction), side.amount, side.stone) for side in self.RIGHT]))
        whole = [Side(side.direction, side.amount, farthest_stone(FIVE, side.direction).stone) for side in self.RIGHT]
        self.assertIsNone(sides_fault(FIVE, whole))

    def test_sides(self):
        for thing in JUNK + [FIVE, self.RIGHT[0], iter(self.RIGHT), dict.fromkeys("ab"), SQUARE]:
            self.assertEqual(sides_fault(FIVE, thing), "sides")

    def test_side(self):
        way, low, stone = self.RIGHT[0].direction, self.RIGHT[0].amount, self.RIGHT[0].stone
        wrong = JUNK + [(way, low, stone), Far(low, stone), [way, low, stone]]
        wrong += [Side(thing, low, stone) for thing in NO_WAYS]
        wrong += [Side(way, thing, stone) for thing in JUNK + [1, [4, 1], (2, 4), (True, 1), (4, True)]]
        wrong += [Side(way, low, thing) for thing in JUNK + [stone.corners, [stone]]]
        for thing in wrong:
            for k in (0, 4):
                self.assertEqual(sides_fault(FIVE, self.RIGHT[:k] + (thing,) + self.RIGHT[k + 1:]), "side")
        # A wrong entry at the end is asked for ahead of a stone at the beginning that does not fit.
        self.assertEqual(sides_fault(FIVE, (Side(way, low, SQUARE), *self.RIGHT[1:-1], None)), "side")

    def moved(self, **told):
        one = self.RIGHT[2]
        one = Side(told.get("direction", one.direction), told.get("amount", one.amount), told.get("stone", one.stone))
        return self.RIGHT[:2] + (one,) + self.RIGHT[3:]

    def test_fits(self):
        for stone in (SQUARE, HEXAGON, patch((4, 1)), patch((0, 0), (4, 0), (4, 1), (3, 2), (0, 3)), patch((20, 20))):
            self.assertEqual(sides_fault(FIVE, self.moved(stone=stone)), "fits")
            self.assertEqual(sides_fault(FIVE, self.moved(stone=stone, amount=r(9))), "fits")

    def test_above(self):
        self.assertEqual(sides_fault(FIVE, self.moved(stone=FIVE.whole)), "above")
        low = number(self.RIGHT[2].amount)
        self.assertEqual(sides_fault(FIVE, self.moved(amount=r(low + Fraction(1, 10 ** 20)))), "above")

    def test_places(self):
        for case in (FIVE, BOX, SIDES, LEFT_RIGHT, ON_A_LINE, CORNER_ALONE, NOTHING):
            right = sure_sides(case)
            self.assertEqual(sides_fault(case, ()), "places")
            self.assertEqual(sides_fault(case, []), "places")
            for k, one in enumerate(right):
                self.assertEqual(sides_fault(case, right[:k] + right[k + 1:]), "places")
                lower = Side(one.direction, r(number(one.amount) - Fraction(1, 10 ** 20)), one.stone)
                told = sides_fault(case, right[:k] + (lower,) + right[k + 1:])
                # Where no place is sure, there may still be none above a lower side.
                self.assertEqual(told, "places" if case not in (SIDES, LEFT_RIGHT, NOTHING) else None)
                lowest = Side(one.direction, r(-10 ** 300), one.stone)
                self.assertEqual(sides_fault(case, right[:k] + (lowest,) + right[k + 1:]), "places")

    def test_places_far_beyond_the_table(self):
        # Above the first two there are places, but only far away, and not where the table is.
        far = 10 ** 60
        case = LEFT_RIGHT
        told = [farthest_stone(case, way) for way in ((1, far), (0, -1), (0, 1))]
        told = [Side(way, one.amount, one.stone) for way, one in zip(((1, far), (0, -1), (0, 1)), told)]
        self.assertEqual(sides_fault(case, told[:2]), "places")
        self.assertIsNone(sides_fault(case, told[1:]))
        self.assertEqual(sides_fault(case, told), "needless")

    def test_needless(self):
        for case in (FIVE, BOX, SIDES, LEFT_RIGHT, ON_A_LINE, ON_A_SLOPE, CORNER_ALONE, NOTHING, LINE):
            right = sure_sides(case)
            self.assertEqual(sides_fault(case, all_critical_sides(case)), "needless")
            for one in right:
                self.assertEqual(sides_fault(case, right + (one,)), "needless")
                lower = Side(one.direction, r(number(one.amount) - 7), one.stone)
                self.assertEqual(sides_fault(case, (lower, *right)), "needless")
        more = farthest_stone(CORNER_ALONE, (1, 7))
        for own in ([(1, 0), (0, 1), (-1, -1)], [(1, 0), (-1, 0), (0, 1), (0, -1)]):
            sides = [Side(way, farthest_stone(CORNER_ALONE, way).amount, patch((2, 3))) for way in own]
            self.assertIsNone(sides_fault(CORNER_ALONE, sides))
            self.assertEqual(sides_fault(CORNER_ALONE, sides + [Side((1, 7), more.amount, more.stone)]), "needless")

    def test_four_round_a_place_of_which_three_are_enough(self):
        ways = [(1, 0), (0, 1), (-1, 0), (-1, -1)]
        sides = [Side(way, farthest_stone(CORNER_ALONE, way).amount, patch((2, 3))) for way in ways]
        self.assertEqual(sides_fault(CORNER_ALONE, sides), "needless")
        self.assertIsNone(sides_fault(CORNER_ALONE, sides[:2] + sides[3:]))

    def test_leaving_out_one_after_another(self):
        for case in [FIVE, BOX, SIDES, ON_A_LINE] + cases_with_stones(12, 305):
            left = all_critical_sides(case)
            if len(left) > 60:
                continue
            sure = lot_of_patch(sure_places(case))
            for side in list(left):
                rest = [one for one in left if one != side]
                if lot_above(floors_told(rest)) == sure:
                    left = rest
            self.assertIsNone(sides_fault(case, left))

    def test_no_stones(self):
        for case in NO_STONES:
            for told in ((), None, self.RIGHT):
                with self.assertRaises(NoStones):
                    sides_fault(case, told)


def have_common(stones):
    common = stones[0]
    for stone in stones[1:]:
        common = common and common_patch(common, stone)
    return common is not None


class StonesApart(unittest.TestCase):
    def test_wholly(self):
        seen = set()
        for case in cases_with_stones(90, 306) + [FIVE, ON_A_LINE, LEFT_RIGHT, SIDES, BOX, APART_ON_A_SLOPE]:
            told, lot = stones_apart(case), lot_of(case)
            if sure_places(case) is not None:
                self.assertIsNone(told)
            else:
                self.assertIs(type(told), tuple)
                self.assertEqual(len(told), 2 if can_be_parted(lot, lot) else 3)
                self.assertTrue(all(type(stone) is Patch and fits(case, stone) for stone in told))
                self.assertFalse(have_common(told))
                for one, two in combinations(told, 2):
                    self.assertIs(meet(one.corners, two.corners), len(told) == 3)
            self.assertIsNone(apart_fault(case, told))
            seen.add(None if told is None else len(told))
        self.assertEqual(seen, {None, 2, 3})

    def test_example(self):
        self.assertIsNone(stones_apart(case=FIVE))
        self.assertEqual(len(stones_apart(SIDES)), 3)
        self.assertEqual(len(stones_apart(LEFT_RIGHT)), 2)
        self.assertIsNone(stones_apart(CORNER_ALONE))

    def test_no_stones(self):
        for case in NO_STONES:
            with self.assertRaises(NoStones):
                stones_apart(case)


class ApartFault(unittest.TestCase):
    def test_right_ones(self):
        three = (patch((0, 0), (4, 0)), patch((0, 4), (4, 0)), patch((0, 0), (0, 4)))
        for row in permutations(three):
            self.assertIsNone(apart_fault(case=SIDES, told=row))
            self.assertIsNone(apart_fault(SIDES, list(row)))
        self.assertIsNone(apart_fault(FIVE, None))
        two = (patch((0, 0), (5, 0)), patch((0, 2), (5, 3)))
        self.assertIsNone(apart_fault(LEFT_RIGHT, two))
        self.assertIsNone(apart_fault(LEFT_RIGHT, list(two[::-1])))

    def test_none(self):
        for case in (SIDES, LEFT_RIGHT, NOTHING):
            self.assertEqual(apart_fault(case, None), "none")

    def test_stones(self):
        stone = patch((0, 0), (4, 2))
        for thing in JUNK[1:] + [(), [], (stone,), (stone,) * 4, (stone, None), (stone, stone, stone.corners), stone, [FIVE] * 2,
                                 iter([stone, stone]), {1: stone, 2: stone}]:
            for case in (FIVE, SIDES):
                self.assertEqual(apart_fault(case, thing), "stones")

    def test_fits(self):
        two = (patch((0, 0), (5, 0)), patch((0, 2), (5, 3)))
        for wrong in (patch((0, 0)), patch((0, 0), (4, 0)), patch((0, 10), (5, 0))):
            self.assertEqual(apart_fault(LEFT_RIGHT, (two[0], wrong)), "fits")
            self.assertEqual(apart_fault(LEFT_RIGHT, (wrong, two[0])), "fits")
            self.assertEqual(apart_fault(LEFT_RIGHT, (*two, wrong)), "fits")

    def test_common(self):
        stone = patch((0, 0), (5, 0))
        self.assertEqual(apart_fault(LEFT_RIGHT, (stone, stone)), "common")
        self.assertEqual(apart_fault(LEFT_RIGHT, (stone, patch((0, 2), (5, 0)))), "common")
        self.assertEqual(apart_fault(LEFT_RIGHT, (stone, patch((0, 2), (5, 0)), patch((0, 7), (5, 0)))), "common")
        # What has a sure place has no stones apart, whatever is told.
        self.assertEqual(apart_fault(FIVE, (FIVE.whole, patch((0, 2), (4, 0), (4, 1)))), "common")
        self.assertEqual(apart_fault(SIDES, (patch((0, 0), (4, 0)), patch((0, 4), (4, 0)))), "common")
        self.assertEqual(apart_fault(SIDES, (SIDES.whole, patch((0, 0), (0, 4)), patch((0, 0), (2, 2), (0, 4)))), "common")

    def test_two(self):
        stones = (patch((0, 0), (5, 0)), patch((0, 2), (5, 3)), patch((0, 8), (5, 8)))
        self.assertEqual(apart_fault(LEFT_RIGHT, stones), "two")
        meeting = (patch((0, 0), (5, 0)), patch((0, 0), (5, 5)), patch((0, 5), (5, 0)))
        self.assertEqual(apart_fault(LEFT_RIGHT, meeting), "two")

    def test_no_stones(self):
        for case in NO_STONES:
            for told in (None, (), (SQUARE, SQUARE)):
                with self.assertRaises(NoStones):
                    apart_fault(case, told)


class Results(unittest.TestCase):
    def test_side(self):
        told = Side(direction=[1], amount=2, stone=SQUARE)
        self.assertEqual((told.direction, told.amount, told.stone), ([1], 2, SQUARE))
        self.assertTrue(told == Side([1], 2, SQUARE))
        for other in (Side((1,), 2, SQUARE), Side([1], 3, SQUARE), Side([1], 2, HEXAGON), Far(2, SQUARE), None, ([1], 2, SQUARE)):
            self.assertFalse(told == other)
            self.assertTrue(told != other)
        for thing in JUNK:
            kept = Side(thing, [thing], thing)
            self.assertIs(kept.direction, thing)
            self.assertIs(kept.amount[0], thing)
            self.assertIs(kept.stone, thing)


class ManyFigures(unittest.TestCase):
    def test_twelve_facts(self):
        for figures, every in ((60, 0), (60, 2), (60, 1), (200, 3)):
            case = twelve_facts(figures, every)
            sides = sure_sides(case)
            self.assertIsNone(sides_fault(case, sides))
            self.assertIsNone(apart_fault(case, stones_apart(case)))
            self.assertTrue(all(holds(case.whole.corners, corner) for side in sides for corner in side.stone.corners))


if __name__ == "__main__":
    unittest.main()
