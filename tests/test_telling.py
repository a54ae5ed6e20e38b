"""[9.1] to [9.5] Directions that tell a stone, and cases with one stone; what the example [9.13] says of these."""

import unittest
from fractions import Fraction

from feltstone.cases import Case
from feltstone.errors import BadDirection, BadDirections, BadStone, NoStones
from feltstone.facts import Ruler
from feltstone.fitting import misfit
from feltstone.gaps import Gap
from feltstone.patches import Patch, hull_of
from feltstone.sure import sure_places
from feltstone.telling import (
    Several, Single, check_directions, check_stone, least_tellers, one_stone, one_stone_fault, ruler_on, rulers_on, tellers_fault,
    telling_fault, tells_wholly,
)
from tests.made_cases import (
    BOX, FIVE, FOUR, NOTHING, ONE_PLACE, ON_STRETCH, TABLE, THREE_PLACES, cases_with_stones, fits, lies_on, lot_of, lowest,
    stones_in, twelve_facts,
)
from tests.makers import (
    DIRECTIONS, HEXAGON, JUNK, POINT, SHAPES, SQUARE, STRETCH, TRIANGLE, UPRIGHT, amount, bow, meets, number, numbers, p, patch,
    r, ruler, source, table, within,
)
from tests.results import check_errors, check_result
from tests.test_critical import NO_WAYS
from tests.test_evens import some_patches
from tests.test_reaches import reach
from tests.test_sure import NO_STONES

HUNDRED = [(k, 1) for k in range(100)]
NO_ROWS = JUNK + [1, "ab", {(1, 0): (0, 1)}, (way for way in DIRECTIONS)]
# The sides of this one lie along those of the table, from one corner of it to near another.
ON_RIM = patch((-9, -9), (9, -9), (9, 3), (0, 9), (-9, 9))
STONES = SHAPES + [
    BOX.whole, FIVE.whole, ON_RIM, TABLE.ground, patch((-9, 0), (9, 0)), patch((-9, -9), (9, 9)), patch((-9, -2), (-9, 5)), patch((-9, -9), (9, -9)),
    patch((0, 9), (3, 9)), patch((0, 9), (3, 8)), patch((9, -3), (9, 9)), patch((0, 0)), patch((9, 0)), patch((-9, 2)), patch((0, 9)),
    patch((4, -9)), patch((9, 9)), patch((-9, -9)), patch((9, -9)), patch((-9, 9)), patch((-9, 0), (0, -9), (9, 0), (0, 9)), patch((0, 0), (9, 0), (9, 1)),
] + some_patches(901, 25)
OFF_TABLE = [patch((10, 0)), patch((0, 0), (0, "19/2")), patch((-9, -9), (10, -9), (0, 9)), bow(5)]
NO_STONE_OF_TABLE = [thing for thing in JUNK] + [1, SQUARE.corners, [SQUARE], BOX, TABLE, *OFF_TABLE]


def on_rim(one, other):
    """Whether two places lie on one side of the table."""
    return any(x == y and abs(x) == 9 for x, y in zip(numbers(one), numbers(other)))


def least_many(stone):
    """How many directions [9.5] tells for a stone of the table."""
    corners = stone.corners
    if len(corners) == 1:
        return 3 - sum(abs(x) == 9 for x in numbers(corners[0]))
    if len(corners) == 2:
        return 3 if on_rim(*corners) else 4
    return len(corners) + sum(not on_rim(one, other) for one, other in zip(corners, corners[1:] + corners[:1]))


def is_told(stone, ways):
    """Whether directions tell a stone of the table: by a case of the whole and of what each ruler touches."""
    halves = [((1, 0), 9), ((0, 1), 9), ((-1, 0), 9), ((0, -1), 9)] + [(way, reach(stone, way)) for way in ways]
    places = [numbers(corner) for corner in crossings(halves)]
    inside = [place for place in places if all(way[0] * place[0] + way[1] * place[1] <= told for way, told in halves)]
    if hull_of([p(*place) for place in inside]) != stone:
        return False
    for corner in stone.corners:
        touched = [[one for one in stone.corners if amount(way, one) == reach(stone, way)] for way in ways]
        if [corner] not in touched and len(stone) > 1:
            return False
    return True


def crossings(halves):
    for k, ((a, b), one) in enumerate(halves):
        for (c, d), other in halves[:k]:
            turn = a * d - b * c
            if turn:
                yield p(Fraction(one * d - other * b) / turn, Fraction(a * other - c * one) / turn)


def alone_at(stone, way):
    """How many corners are farthest along a direction."""
    return sum(amount(way, corner) == reach(stone, way) for corner in stone.corners)


class Directions(unittest.TestCase):
    def test_as_many_as_are_let(self):
        for row, most in (([], 0), ((), 5), ([(1, 0)], 1), ([(1, 0), [1, 0], (1, 0)], 3), (HUNDRED, 100), (tuple(HUNDRED), 100), ([[0, -1]], 7)):
            told = check_directions(directions=row, most=most)
            self.assertEqual(told, tuple(tuple(way) for way in row))
            self.assertTrue(type(told) is tuple and all(type(way) is tuple for way in told))

    def test_wrong_ones(self):
        rows = [(lambda row=row, most=most: check_directions(row, most), BadDirections, 0) for row in NO_ROWS for most in (0, 3, 100)]
        rows += [(lambda: check_directions([(1, 0)], 0), BadDirections, 0), (lambda: check_directions([(0, 1), None], 1), BadDirections, 0),
                 (lambda: check_directions(HUNDRED + [(0, 1)], 100), BadDirections, 0)]
        for k in range(4):
            for wrong in NO_WAYS:
                rows.append((lambda k=k, wrong=wrong: check_directions([(1, 0)] * k + [wrong, None], 9), BadDirections, k))
        check_errors(self, rows)

    def test_rulers(self):
        for stone in STONES + [bow(60)]:
            told = rulers_on(stone=stone, directions=[list(way) for way in DIRECTIONS])
            self.assertIs(type(told), tuple)
            for way, one in zip(DIRECTIONS, told):
                self.assertIs(type(one), Ruler)
                self.assertEqual((one.direction, number(one.amount)), (way, reach(stone, way)))
                self.assertEqual(ruler_on(stone=stone, direction=way), one)
        self.assertEqual(rulers_on(SQUARE, ()), ())
        self.assertEqual(rulers_on(SQUARE, [(1, 1), (1, 1)]), (ruler(1, 1, 4), ruler(1, 1, 4)))
        self.assertEqual(len(rulers_on(POINT, HUNDRED)), 100)

    def test_wrong_rulers(self):
        rows = [(lambda wrong=wrong: ruler_on(SQUARE, wrong), BadDirection) for wrong in NO_WAYS + JUNK]
        rows += [(lambda row=row: rulers_on(SQUARE, row), BadDirections, 0) for row in NO_ROWS + [HUNDRED + [(1, 0)]]]
        rows += [(lambda wrong=wrong: rulers_on(SQUARE, [(1, 0), (0, 1), wrong]), BadDirections, 2) for wrong in NO_WAYS]
        check_errors(self, rows)

    def test_stones(self):
        for stone in STONES:
            self.assertIs(check_stone(table=TABLE, stone=stone), stone)
        check_errors(self, [(lambda stone=stone: check_stone(TABLE, stone), BadStone) for stone in NO_STONE_OF_TABLE])


CASES = cases_with_stones(60, 902) + [ONE_PLACE, ON_STRETCH, THREE_PLACES, NOTHING, FIVE, BOX]
CORNERS = [meets((0, 0)), meets((4, 0)), meets((4, 2)), meets((0, 2))]
# Cases of one stone: a polygon, a stretch, a place.
LONE = [BOX.with_facts(CORNERS), Case(TABLE, [meets((0, 3)), within(1, 1, 3), within(-1, -1, -3), ruler(1, 0, 2), ruler(-1, 0, 0)]), ONE_PLACE,
        Case(table(0, 0, 1, 1), [ruler(1, 1, 2), ruler(1, -1, 1), ruler(-1, 1, 1), ruler(-1, -1, 0)]), Case(TABLE, [ruler(1, 1, -18)]),
        Case(TABLE, [*FOUR, ruler(-1, -2, 0), ruler(1, -2, 4), ruler(1, 2, 8), ruler(-1, 2, 4)]), Case(TABLE, [within(1, 1, -18)])]


def lone_numbers(case):
    """For each corner of the whole all numbers of patches that are just it."""
    return [[number_told for number_told, one in case.patches if one.corners == (corner,)] for corner in case.whole.corners]


class OneStone(unittest.TestCase):
    def test_single(self):
        for case in LONE:
            told = one_stone(case=case)
            self.assertIs(type(told), Single)
            self.assertEqual(told.stone, case.whole)
            self.assertEqual(told.tellers, tuple(row[0] for row in lone_numbers(case)))
            self.assertIsNone(one_stone_fault(case=case, told=told))
        self.assertEqual([one_stone(case).tellers for case in LONE],
                         [(4, 5, 6, 7), (0, 3), (-1,), (3, 1, 0, 2), (-1,), (4, 5, 6, 7), (-1,)])

    def test_several(self):
        kinds = set()
        for case in CASES:
            told = one_stone(case)
            self.assertEqual(type(told) is Single, all(lone_numbers(case)))
            if type(told) is Several:
                self.assertTrue(fits(case, told.one) and fits(case, told.other))
                self.assertNotEqual(told.one, told.other)
            self.assertIsNone(one_stone_fault(case, told))
            kinds.add((type(told), min(len(case.whole), 3)))
        self.assertLessEqual({(Single, 1), (Several, 2), (Several, 3)}, kinds)

    def test_three_things_that_say_the_same(self):
        picks = source(903)
        for case in CASES + LONE:
            single = type(one_stone(case)) is Single
            self.assertEqual(sure_places(case) == case.whole, single)
            if single:
                self.assertTrue(all(stone == case.whole for stone in stones_in(case, picks)))

    def test_without_one_of_the_facts_that_tell(self):
        for case in (LONE[0], LONE[3], LONE[5]):
            for k in one_stone(case).tellers:
                self.assertIs(type(one_stone(case.without_fact(k))), Several)

    def test_no_stones(self):
        check_errors(self, [(lambda case=case, call=call: call(case), NoStones) for case in NO_STONES
                            for call in (one_stone, lambda case: one_stone_fault(case, None))])


class OneStoneFault(unittest.TestCase):
    def test_kind(self):
        for case in (LONE[0], BOX):
            for told in JUNK + [case.whole, (case.whole, (4, 5, 6, 7)), Gap(1, 2, case.whole), Single, Several]:
                self.assertEqual(one_stone_fault(case, told), "kind")

    def test_stone(self):
        for stone in JUNK + [SQUARE, LONE[0].whole.corners, [LONE[0].whole], patch((0, 0), (4, 2))]:
            for tellers in ((4, 5, 6, 7), None):
                self.assertEqual(one_stone_fault(LONE[0], Single(stone, tellers)), "stone")
        self.assertEqual(one_stone_fault(BOX, Single(patch((0, 0), (4, 2)), (0, 1, 2, 3))), "stone")

    def test_tellers(self):
        wrong = JUNK + [[4, 5, 6, 7], (4, 5, 6), (4, 5, 6, 7, 7), (5, 4, 6, 7), (-1, 5, 6, 7), (4, 5, 6, 8), (4, 5, 6.0, 7), (4, 5, None, 7), (0, 5, 6, 7), (),
                        "4567", {4: 4, 5: 5, 6: 6, 7: 7}]
        for tellers in wrong:
            self.assertEqual(one_stone_fault(LONE[0], Single(LONE[0].whole, tellers)), "tellers")
        twice = LONE[0].with_facts(CORNERS[:2])
        for tellers in ((4, 5, 6, 7), (8, 9, 6, 7), (8, 5, 6, 7)):
            self.assertIsNone(one_stone_fault(twice, Single(twice.whole, tellers)))
        # Each of the four rulers touches one corner; True is no number of the one with number 1.
        self.assertIsNone(one_stone_fault(LONE[3], Single(LONE[3].whole, (3, 1, 0, 2))))
        self.assertEqual(one_stone_fault(LONE[3], Single(LONE[3].whole, (3, True, 0, 2))), "tellers")
        self.assertEqual(one_stone_fault(LONE[3], Single(LONE[3].whole, (3, 1, False, 2))), "tellers")
        for k in (-1, 1, 2):
            self.assertIsNone(one_stone_fault(ONE_PLACE, Single(ONE_PLACE.whole, (k,))))
        self.assertEqual(one_stone_fault(ONE_PLACE, Single(ONE_PLACE.whole, (0,))), "tellers")
        self.assertEqual(one_stone_fault(BOX, Single(BOX.whole, (0, 1, 2, 3))), "tellers")

    def test_fits(self):
        right = patch((0, 0), (4, 2))
        for wrong in JUNK + [right.corners, [right], SQUARE, POINT, patch((0, 0), (10, 2))]:
            for told in (Several(wrong, right), Several(right, wrong), Several(wrong, wrong)):
                self.assertEqual(one_stone_fault(BOX, told), "fits")
        self.assertIsNone(one_stone_fault(BOX, Several(right, BOX.whole)))

    def test_alike(self):
        for stone in (BOX.whole, patch((0, 0), (4, 2))):
            self.assertEqual(one_stone_fault(BOX, Several(stone, Patch(stone.corners))), "alike")
        for case in LONE:
            self.assertEqual(one_stone_fault(case, Several(case.whole, case.whole)), "alike")

    def test_they_are_results(self):
        check_result(self, Single, "stone", "tellers")
        check_result(self, Several, "one", "other")
        self.assertFalse(Single(1, 2) == Several(1, 2))


class TellsWholly(unittest.TestCase):
    def check(self, stone, ways):
        """Whether the directions tell the stone; if not, with another stone that is right."""
        told = tells_wholly(table=TABLE, stone=stone, directions=ways)
        self.assertEqual(told is None, is_told(stone, ways))
        if told is not None:
            self.assertIs(type(told), Patch)
            self.assertTrue(lies_on(told, TABLE.ground))
            self.assertNotEqual(told, stone)
            self.assertTrue(all(reach(told, way) == reach(stone, way) for way in ways))
        self.assertIsNone(telling_fault(table=TABLE, stone=stone, directions=ways, told=told))
        return told is None

    def test_by_chance(self):
        picks = source(904)
        for stone in STONES:
            ways = [lowest(picks.randint(-4, 4), picks.choice([-3, -2, -1, 1, 2])) for _ in range(picks.randint(0, 9))]
            self.check(stone, ways)
            self.check(stone, tuple(list(way) for way in ways + ways[:2]))

    def test_as_short_as_can_be(self):
        seen = set()
        for stone in STONES:
            ways = least_tellers(table=TABLE, stone=stone)
            self.assertIs(type(ways), tuple)
            self.assertTrue(all(type(way) is tuple for way in ways))
            self.assertEqual(len(ways), least_many(stone))
            self.assertTrue(self.check(stone, ways))
            self.assertIsNone(tellers_fault(table=TABLE, stone=stone, directions=ways))
            for k in range(len(ways)):
                self.assertFalse(self.check(stone, ways[:k] + ways[k + 1:]))
            seen.add((min(len(stone), 3), len(ways) - len(stone)))
        self.assertLessEqual({(1, 2), (1, 1), (1, 0), (2, 2), (2, 1)}, seen)
        self.assertEqual(len(least_tellers(TABLE, TABLE.ground)), 4)
        self.assertEqual(len(least_tellers(TABLE, ON_RIM)), 6)

    def test_a_side_and_a_corner_need_their_own(self):
        for stone in STONES:
            if len(stone) > 2:
                ways = least_tellers(TABLE, stone)
                self.assertEqual(sum(alone_at(stone, way) == 1 for way in ways), len(stone))

    def test_example(self):
        self.assertEqual(len(least_tellers(TABLE, BOX.whole)), 8)
        four = [(1, 0), (0, 1), (-1, 0), (0, -1)]
        self.assertTrue(self.check(BOX.whole, four + [(1, 1), (1, -1), (-1, 1), (-1, -1)]))
        self.assertFalse(self.check(BOX.whole, four + [(1, 1), (1, -1), (-1, 1)]))
        self.assertEqual(misfit(BOX, patch((0, 0), (4, 2))), None)
        self.assertIs(type(one_stone(BOX)), Several)

    def test_no_directions(self):
        for stone in STONES:
            self.assertFalse(self.check(stone, ()))

    def test_a_hundred_directions(self):
        self.assertTrue(self.check(patch((-9, -9)), HUNDRED))
        self.assertFalse(self.check(UPRIGHT, HUNDRED))
        # More than a case has facts.
        around = [lowest(k, 13) for k in range(-20, 20)] + [lowest(k, -13) for k in range(-20, 20)] + [(1, 0), (-1, 0)]
        self.assertTrue(self.check(patch((0, 0)), around))
        self.assertTrue(self.check(patch((0, 0), (0, 3)), around))

    def test_another_table(self):
        small = table(0, 0, 1, 1)
        self.assertEqual(len(least_tellers(small, small.ground)), 4)
        self.assertEqual(len(least_tellers(small, patch((0, 0), (1, 0), (0, 1)))), 4)
        self.assertIsNone(tells_wholly(small, patch((0, 0)), [(1, 1)]))
        self.assertIsNotNone(tells_wholly(TABLE, patch((0, 0)), [(1, 1)]))

    def test_errors(self):
        calls = (tells_wholly, lambda *given: telling_fault(*given, None))
        rows = [(lambda call=call, stone=stone, ways=ways: call(TABLE, stone, ways), BadStone)
                for call in calls for stone in NO_STONE_OF_TABLE for ways in ([(1, 0)], None, [None])]
        for call in calls:
            rows += [(lambda call=call, ways=ways: call(TABLE, SQUARE, ways), BadDirections, 0) for ways in NO_ROWS + [HUNDRED + [(0, 1)]]]
            rows += [(lambda call=call, way=way: call(TABLE, SQUARE, [(1, 0), way, way]), BadDirections, 1) for way in NO_WAYS]
        for stone in NO_STONE_OF_TABLE:
            rows += [(lambda stone=stone: least_tellers(TABLE, stone), BadStone)]
            rows += [(lambda stone=stone, ways=ways: tellers_fault(TABLE, stone, ways), BadStone) for ways in ([(1, 0)], None)]
        check_errors(self, rows)


class Faults(unittest.TestCase):
    WAYS = ((1, 0), (0, 1), (1, 1))

    def fault(self, told, stone=SQUARE, ways=WAYS):
        return telling_fault(TABLE, stone, ways, told)

    def test_telling(self):
        self.assertEqual(self.fault(None), "none")
        self.assertIsNone(self.fault(None, SQUARE, least_tellers(TABLE, SQUARE)))
        for told in JUNK[1:] + [1, SQUARE.corners, [SQUARE], *OFF_TABLE]:
            self.assertEqual(self.fault(told), "stone")
            self.assertEqual(self.fault(told, SQUARE, least_tellers(TABLE, SQUARE)), "stone")
        for ways in (self.WAYS, (), least_tellers(TABLE, SQUARE)):
            self.assertEqual(self.fault(Patch(SQUARE.corners), SQUARE, ways), "alike")
        for told in (TRIANGLE, STRETCH, patch((0, 0), (2, 0), (0, 2)), patch((2, 2), (3, 2)), TABLE.ground):
            self.assertEqual(self.fault(told), "reach")
        for told in (patch((2, 2)), patch((-9, -9), (2, -9), (2, 2)), patch((0, 0), (2, 2))):
            self.assertIsNone(self.fault(told))
            self.assertIsNone(self.fault(told, SQUARE, [[1, 0], [0, 1]]))
            self.assertEqual(self.fault(told, SQUARE, least_tellers(TABLE, SQUARE)), "reach")

    def test_tellers(self):
        right = least_tellers(TABLE, SQUARE)
        for ways in NO_ROWS + [HUNDRED + [(0, 1)], right + (None,), right + ((2, 4),), (None,) + right, right + ((True, 0),)]:
            self.assertEqual(tellers_fault(TABLE, SQUARE, ways), "directions")
        for ways in ((), right[:-1], right[1:], [(1, 0)] * 8, DIRECTIONS[:4]):
            self.assertEqual(tellers_fault(TABLE, SQUARE, ways), "other")
        for ways in (right + right[:1], right + ((5, 1),), [*right, (1, 0), (3, 1)]):
            self.assertEqual(tellers_fault(TABLE, SQUARE, ways), "many")
        self.assertIsNone(tellers_fault(TABLE, SQUARE, [list(way) for way in right[::-1]]))
        # Other directions for the corners will do.
        self.assertIsNone(tellers_fault(TABLE, SQUARE, [(1, 0), (0, 1), (-1, 0), (0, -1), (7, 1), (-2, 9), (-1, -5), (3, -1)]))
        self.assertIsNone(tellers_fault(TABLE, patch((0, 0)), [(1, 7), (2, -9), (-1, 0)]))
        self.assertEqual(tellers_fault(TABLE, patch((0, 0)), DIRECTIONS[:4]), "many")
        self.assertIsNone(tellers_fault(TABLE, patch((9, 2)), [(-1, 7), (-2, -9)]))
        self.assertEqual(tellers_fault(TABLE, patch((9, 2)), [(1, 0), (-1, 7), (-2, -9)]), "many")
        self.assertIsNone(tellers_fault(TABLE, patch((9, 9)), [(-3, -2)]))
        self.assertEqual(tellers_fault(TABLE, patch((9, 9)), [(-1, 0)]), "other")
        self.assertIsNone(tellers_fault(TABLE, patch((0, 9), (3, 9)), [(0, -1), (5, 1), (-2, 3)]))


class ManyFigures(unittest.TestCase):
    def test_twelve_facts(self):
        for figures, every in ((60, 1), (300, 0), (150, 2)):
            case = twelve_facts(figures, every)
            told = one_stone(case)
            self.assertIs(type(told), Several)
            self.assertIsNone(one_stone_fault(case, told))
            ways = least_tellers(case.table, case.whole)
            self.assertIsNone(tells_wholly(case.table, case.whole, ways))
            self.assertIsNone(tellers_fault(case.table, case.whole, ways))
            self.assertIsNotNone(tells_wholly(case.table, case.whole, ways[1:]))

    def test_fifty_corners(self):
        wide = 10 ** 200
        stone = hull_of([p(Fraction(k * wide, 30 * wide + 1), Fraction(k * k * wide, 500 * wide - 1)) for k in range(-25, 25)])
        self.assertEqual(len(stone), 50)
        ways = least_tellers(TABLE, stone)
        self.assertEqual(len(ways), 100)
        self.assertIsNone(tellers_fault(TABLE, stone, ways))
        self.assertEqual(tellers_fault(TABLE, stone, ways[:60]), "other")


if __name__ == "__main__":
    unittest.main()
