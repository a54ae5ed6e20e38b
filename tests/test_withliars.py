"""[9.11] and [9.12] What is sure and what may be if some of the facts may be lies."""

import unittest
from fractions import Fraction
from itertools import combinations

from feltstone.cases import Case
from feltstone.errors import BadDirection, BadMost, BadPlace, NoFact, NoStones
from feltstone.facts import Meets
from feltstone.fitting import has_stone
from feltstone.liars import lots_of_liars
from feltstone.patches import Patch, common_patch, corner_patches
from feltstone.withliars import reaches_with_liars, stone_breaking, sure_liars, sure_truths, verdict_with_liars
from tests.made_cases import (
    BOX, FIVE, NOTHING, TABLE, TOO_FAR, can_be_parted, greatest_least, keeps, lies_on, lot_of, lowest, stones_in,
    twelve_facts,
)
from tests.makers import JUNK, holds, meets, number, p, r, ruler, source, table, within
from tests.results import check_errors
from tests.test_critical import NO_WAYS
from tests.test_liars import APART, CASES, NO_MOSTS
from tests.test_reaches import NEAR, reach
from tests.test_sure import NO_PLACES, surely

NEVER = Case(TABLE, [meets((20, 0))] * 4)
WAYS = [(1, 0), (-1, -1), (2, 1)]
# Cases of up to seven facts, so that going through all lots does not take long.
SMALL = [case for case in CASES if len(case) < 8][::2] + [FIVE, TOO_FAR, NOTHING, Case(TABLE, [meets((0, 0))] * 4)]


def bases(case, most):
    """What is left without lots of as many facts as may be lies, where that has a stone, with the lots."""
    many = min(most, len(case))
    for lot in combinations(range(len(case)), many):
        base = Case(case.table, [fact for k, fact in enumerate(case.facts) if k not in lot])
        if has_stone(base):
            yield lot, base


def follows(case, fact):
    """Whether each stone that fits keeps a fact, by [4.8]."""
    lot = lot_of(case)
    if isinstance(fact, Meets):
        common = common_patch(case.whole, fact.patch)
        return common is not None and not can_be_parted(lot, corner_patches(common))
    greatest, least = reach(case.whole, fact.direction), greatest_least(lot, fact.direction)
    if type(fact).__name__ == "Within":
        return greatest <= number(fact.amount)
    return greatest == least == number(fact.amount)


def broken_by(case, stone):
    return [k for k, fact in enumerate(case.facts) if not keeps(stone, fact)]


def is_one_of(case, most, stone):
    """Whether a stone lies in the table and breaks at most so many facts."""
    return type(stone) is Patch and lies_on(stone, case.table.ground) and len(broken_by(case, stone)) <= most


class SureFacts(unittest.TestCase):
    def test_example(self):
        self.assertEqual(sure_truths(case=TOO_FAR, most=1), (2, 3))
        self.assertEqual(sure_liars(case=TOO_FAR, most=1), ())
        self.assertEqual(sure_truths(BOX, 0), (0, 1, 2, 3))

    def test_sure_liars(self):
        seen = set()
        for case in CASES:
            for most in range(4):
                lots = lots_of_liars(case, most)
                if not lots:
                    continue
                told = sure_liars(case, most)
                self.assertEqual(told, tuple(k for k in range(len(case)) if all(k in lot for lot in lots)))
                self.assertIs(type(told), tuple)
                seen.add(len(told))
        self.assertEqual(seen, {0, 1, 2, 3})

    def test_sure_truths(self):
        seen = set()
        for case in SMALL:
            for most in range(4):
                if not lots_of_liars(case, most):
                    continue
                told = sure_truths(case, most)
                left = list(bases(case, most))
                due = [k for k, fact in enumerate(case.facts) if all(k not in lot or follows(base, fact) for lot, base in left)]
                self.assertEqual(told, tuple(due))
                seen.add((most, len(told) == 0, len(told) == len(case)))
        self.assertLessEqual({(0, False, True), (3, True, False), (1, False, False), (2, False, False)}, seen)

    def test_against_each_other_and_the_stones(self):
        picks = source(931)
        for case in SMALL:
            for most in range(4):
                if lots_of_liars(case, most):
                    liars, truths = sure_liars(case, most), sure_truths(case, most)
                    self.assertFalse(set(liars) & set(truths))
                    for _, base in list(bases(case, most))[:12]:
                        for stone in stones_in(base, picks, 2):
                            broken = broken_by(case, stone)
                            self.assertLessEqual(len(broken), most)
                            self.assertLessEqual(set(liars), set(broken))
                            self.assertFalse(set(truths) & set(broken))

    def test_equal_facts(self):
        three = Case(TABLE, [ruler(1, 0, 4)] * 3 + [within(0, 1, 2)])
        self.assertEqual([sure_truths(three, most) for most in range(4)], [(0, 1, 2, 3), (0, 1, 2), (0, 1, 2), ()])
        four = Case(TABLE, [meets((1, 1))] * 4)
        self.assertEqual([sure_truths(four, most) for most in range(4)], [(0, 1, 2, 3)] * 4)

    def test_facts_that_no_stone_of_the_table_breaks(self):
        case = Case(TABLE, [within(1, 0, 9), meets((-9, -9), (9, -9), (9, 9), (-9, 9)), within(0, 1, 8)])
        for most in (1, 2, 3):
            self.assertEqual(sure_truths(case, most), (0, 1))
        self.assertEqual(sure_truths(case, 0), (0, 1, 2))
        self.assertEqual(sure_truths(NOTHING, 3), ())
        self.assertEqual(sure_liars(NOTHING, 3), ())
        self.assertEqual(sure_liars(Case(TABLE, [meets((20, 0)), within(1, 0, 3)]), 3), (0,))

    def test_errors(self):
        rows = [(lambda call=call, case=case, most=most: call(case, most), BadMost)
                for call in (sure_liars, sure_truths) for case in (BOX, TOO_FAR, NEVER) for most in NO_MOSTS]
        rows += [(lambda call=call, case=case, most=most: call(case, most), NoStones) for call in (sure_liars, sure_truths)
                 for case, most in ((TOO_FAR, 0), (APART, 2), (NEVER, 3), (NEVER, 0))]
        check_errors(self, rows)


class StoneBreaking(unittest.TestCase):
    def test_wholly(self):
        seen = set()
        for case in SMALL:
            for most in range(4):
                if not lots_of_liars(case, most):
                    continue
                truths, liars = sure_truths(case, most), sure_liars(case, most)
                for k in range(len(case)):
                    told = stone_breaking(case=case, most=most, number=k)
                    self.assertEqual(told is None, k in truths)
                    if told is not None:
                        self.assertTrue(is_one_of(case, most, told))
                        self.assertIn(k, broken_by(case, told))
                        self.assertLessEqual(set(liars), set(broken_by(case, told)))
                    seen.add((type(case.facts[k]).__name__, told is None))
        self.assertEqual(len(seen), 6)

    def test_no_liars(self):
        for k in range(4):
            self.assertIsNone(stone_breaking(BOX, 0, k))

    def test_some(self):
        for k in (0, 1, 4):
            self.assertEqual(broken_by(TOO_FAR, stone_breaking(TOO_FAR, 1, k)), [k])
        self.assertIsNone(stone_breaking(TOO_FAR, 1, 2))
        # Stones between walls; whoever misses a wall misses all on one side of it.
        walls = Case(TABLE, [meets((x, -9), (x, 9)) for x in range(-5, 6)])
        self.assertEqual(sure_truths(walls, 3), (3, 4, 5, 6, 7))
        self.assertEqual(sure_truths(walls, 2), (2, 3, 4, 5, 6, 7, 8))
        for k in range(11):
            told = stone_breaking(walls, 3, k)
            self.assertEqual(told is None, 3 <= k <= 7)
            self.assertTrue(told is None or is_one_of(walls, 3, told) and k in broken_by(walls, told))

    def test_a_meets_off_the_table_is_broken_by_all(self):
        case = Case(TABLE, [meets((20, 0)), within(1, 0, 3), within(-1, 0, 3)])
        for most in (1, 2, 3):
            self.assertEqual(sure_liars(case, most), (0,))
            self.assertIn(0, broken_by(case, stone_breaking(case, most, 0)))
        self.assertIsNone(stone_breaking(case, 1, 1))
        self.assertEqual(broken_by(case, stone_breaking(case, 2, 1)), [0, 1])

    def test_errors(self):
        rows = []
        for case in (BOX, TOO_FAR, NEVER):
            rows += [(lambda case=case, most=most, k=k: stone_breaking(case, most, k), BadMost) for most in NO_MOSTS for k in (0, 50, None)]
            for wrong in JUNK + [-1, 12, 1.0, len(case), "0", (0,)]:
                rows += [(lambda case=case, most=most, wrong=wrong: stone_breaking(case, most, wrong), NoFact, wrong) for most in (0, 1, 3)]
        rows += [(lambda case=case, most=most: stone_breaking(case, most, 0), NoStones) for case, most in ((TOO_FAR, 0), (APART, 2), (NEVER, 3))]
        check_errors(self, rows)


def some_of(case, picks):
    left, low, right, high = *map(number, case.table.low), *map(number, case.table.high)
    places = [p(picks.randint(int(left), int(right)), picks.randint(int(low), int(high))) for _ in range(4)]
    return places + [p(left - 1, low), p(left, low), p((left + right) / 2, (low + high) / 2)]


class Verdicts(unittest.TestCase):
    def test_wholly(self):
        picks, seen = source(932), set()
        for case in SMALL:
            for most in range(4):
                left = [base for _, base in bases(case, most)]
                if not left:
                    continue
                for place in some_of(case, picks):
                    told = verdict_with_liars(case=case, most=most, place=place)
                    if all(surely(base, place) for base in left):
                        due = "always"
                    else:
                        due = "maybe" if any(holds(base.whole.corners, place) for base in left) else "never"
                    self.assertEqual(told, due)
                    self.assertEqual(verdict_with_liars(case, most, list(place)), told)
                    seen.add((told, most > 0))
        self.assertEqual(len(seen), 6)

    def test_some(self):
        three = Case(TABLE, [meets((1, 1))] * 2 + [meets((1, 2))])
        rows = [(0, (1, 1), "always"), (1, (1, 1), "always"), (2, (1, 1), "maybe"), (1, (1, 2), "maybe"), (0, (1, 2), "always"), (3, (1, 1), "maybe"),
                (0, (10, 0), "never"), (3, (10, 0), "never"), (0, (0, 0), "maybe")]
        for most, place, due in rows:
            self.assertEqual(verdict_with_liars(three, most, p(*place)), due)
        # Without the one fact no stone has the place, without the other all have it.
        either = Case(TABLE, [meets((1, 1)), within(1, 0, 0)])
        self.assertEqual(verdict_with_liars(either, 1, p(1, 1)), "maybe")
        self.assertEqual(verdict_with_liars(Case(TABLE, either.facts[::-1]), 1, p(1, 1)), "maybe")
        self.assertEqual(verdict_with_liars(BOX, 0, p(2, 1)), "always")
        self.assertEqual(verdict_with_liars(BOX, 1, p(2, 1)), "maybe")
        self.assertEqual(verdict_with_liars(BOX, 1, p(5, 1)), "maybe")
        self.assertEqual(verdict_with_liars(BOX, 1, p(5, 3)), "never")
        self.assertEqual(verdict_with_liars(BOX, 2, p(5, 3)), "maybe")

    def test_errors(self):
        rows = []
        for case in (BOX, TOO_FAR, NEVER):
            rows += [(lambda case=case, most=most, place=place: verdict_with_liars(case, most, place), BadMost)
                     for most in NO_MOSTS for place in (p(0, 0), None)]
            rows += [(lambda case=case, most=most, place=place: verdict_with_liars(case, most, place), BadPlace) for place in NO_PLACES for most in (0, 2)]
        rows += [(lambda case=case, most=most: verdict_with_liars(case, most, p(90, 0)), NoStones) for case, most in ((TOO_FAR, 0), (APART, 2), (NEVER, 3))]
        check_errors(self, rows)


def spans_of(case, most, way):
    """The reaches of the stones of each base, one by one."""
    return [(greatest_least(lot_of(base), way), reach(base.whole, way)) for _, base in bases(case, most)]


class Reaches(unittest.TestCase):
    def test_wholly(self):
        many = set()
        for case in SMALL:
            for most in range(4):
                for way in WAYS:
                    spans = spans_of(case, most, way)
                    if not spans:
                        continue
                    told = reaches_with_liars(case=case, most=most, direction=way)
                    self.assertIs(type(told), tuple)
                    self.assertTrue(all(type(row) is tuple and len(row) == 2 for row in told))
                    rows = [tuple(map(number, row)) for row in told]
                    self.assertTrue(all(low <= high for low, high in rows))
                    self.assertTrue(all(one[1] < other[0] for one, other in zip(rows, rows[1:])))
                    # Each span lies in a told one, and the ends and the inside of each told one are in spans.
                    self.assertTrue(all(any(low <= one and other <= high for low, high in rows) for one, other in spans))
                    self.assertTrue({end for row in rows for end in row} <= {end for span in spans for end in span})
                    ends = sorted({end for span in spans for end in span})
                    for one, other in zip(ends, ends[1:]):
                        middle = (one + other) / Fraction(2)
                        self.assertEqual(any(low <= middle <= high for low, high in rows), any(low <= middle <= high for low, high in spans))
                    self.assertEqual(reaches_with_liars(case, most, list(way)), told)
                    many.add(len(told))
        self.assertLessEqual({1, 2}, many)

    def test_no_stone_is_outside(self):
        picks = source(933)
        for case in SMALL[::2]:
            for most in range(3):
                for way in WAYS:
                    for _, base in list(bases(case, most))[:6]:
                        for stone in stones_in(base, picks, 2):
                            rows = reaches_with_liars(case, most, way)
                            self.assertTrue(any(number(low) <= reach(stone, way) <= number(high) for low, high in rows))

    def test_gaps_and_couples_that_touch(self):
        self.assertEqual(reaches_with_liars(TOO_FAR, 1, (1, 1)), ((r(4), r(6)), (r(7), r(7))))
        self.assertEqual(reaches_with_liars(BOX, 0, (1, 0)), ((r(4), r(4)),))
        self.assertEqual(reaches_with_liars(BOX, 1, (1, 0)), ((r(0), r(9)),))
        # Either this ruler lies or that one.
        two = Case(TABLE, [ruler(1, 0, 3), ruler(1, 0, 5)])
        self.assertEqual(reaches_with_liars(two, 1, (1, 0)), ((r(3), r(3)), (r(5), r(5))))
        self.assertEqual(reaches_with_liars(two, 2, (1, 0)), ((r(-9), r(9)),))
        three = Case(TABLE, [ruler(1, 0, 3), ruler(1, 0, 5), ruler(1, 0, -2)])
        self.assertEqual(reaches_with_liars(three, 2, (1, 0)), ((r(-2), r(-2)), (r(3), r(3)), (r(5), r(5))))

    def test_touching_and_just_apart(self):
        for shift, due in ((0, ((r(0), r(9)),)), (-NEAR, ((r(0), r(9)),)), (NEAR, ((r(0), r(3)), (r(3 + NEAR), r(9))))):
            # Stones reach to 3 at most, or to what is just about 3 at least.
            case = Case(table(0, 0, 9, 9), [within(1, 0, 3), meets((3 + shift, 0), (9, 0), (9, 9), (3 + shift, 9))])
            self.assertEqual(reaches_with_liars(case, 1, (1, 0)), due)
            self.assertEqual(reaches_with_liars(case, 2, (1, 0)), ((r(0), r(9)),))
            self.assertEqual(reaches_with_liars(case.turned(), 1, (0, 1)), due)

    def test_errors(self):
        rows = []
        for case in (BOX, TOO_FAR, NEVER):
            rows += [(lambda case=case, most=most, way=way: reaches_with_liars(case, most, way), BadMost) for most in NO_MOSTS for way in ((1, 0), None)]
            rows += [(lambda case=case, most=most, way=way: reaches_with_liars(case, most, way), BadDirection) for way in NO_WAYS for most in (0, 2)]
        rows += [(lambda case=case, most=most: reaches_with_liars(case, most, (1, 0)), NoStones) for case, most in ((TOO_FAR, 0), (APART, 2), (NEVER, 3))]
        check_errors(self, rows)


class ManyFigures(unittest.TestCase):
    def test_twelve_facts(self):
        picks = source(934)
        for figures, every, most in ((60, 1, 3), (300, 0, 3), (300, 3, 2)):
            case = twelve_facts(figures, every)
            truths = sure_truths(case, most)
            for k in (0, 5, 11):
                told = stone_breaking(case, most, k)
                self.assertEqual(told is None, k in truths)
                self.assertTrue(told is None or is_one_of(case, most, told) and k in broken_by(case, told))
            self.assertEqual(sure_liars(case, most), ())
            self.assertIn(verdict_with_liars(case, most, p(0, 0)), ("always", "maybe"))
            self.assertEqual(verdict_with_liars(case, most, p(50, 0)), "never")
            way = lowest(10 ** 280 + picks.randint(1, 99), 7)
            self.assertEqual(len(reaches_with_liars(case, most, way)), 1)


if __name__ == "__main__":
    unittest.main()
