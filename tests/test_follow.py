"""[4.11] to [4.13] Facts that follow from others, and cases with the same stones."""

import unittest

from feltstone.cases import Case
from feltstone.claims import Answer, answer_of
from feltstone.errors import NoStones
from feltstone.fitting import misfit
from feltstone.follow import Unlike, alike_cases, all_fit, follows, lean_facts, needless_facts, unlike_fault
from feltstone.patches import Patch
from feltstone.sure import Far
from tests.made_cases import (
    BOX, FIVE, FOUR, NOTHING, SIDES, TABLE, cases_with_stones, fits, keeps, some_fact, stones_in, twelve_facts,
)
from tests.makers import HEXAGON, JUNK, SQUARE, meets, patch, ruler, source, table, within
from tests.test_sure import NO_STONES

# Facts of all three classes that follow from the four rulers, and others of which each is kept by some stone or none.
FOLLOWING = [within(1, 0, 4), within(1, 0, 9), within(1, 1, 6), ruler(1, 0, 4), ruler(0, -1, 0), meets((4, 0), (4, 2)),
             meets((-9, -9), (9, -9), (9, 9), (-9, 9)), meets((2, 1)), meets((0, 0), (4, 0), (4, 2), (0, 2))]
OTHERS = [within(1, 0, 3), within(1, 1, 5), ruler(1, 0, 3), ruler(1, 1, 6), ruler(1, 1, 4), meets((0, 0)), meets((4, 0), (4, 1)),
          meets((5, 5)), within(1, 0, -1)]


def without(case, numbers):
    return Case(case.table, [fact for k, fact in enumerate(case.facts) if k not in numbers])


def is_implied(case, fact):
    return follows(case, fact).breaking is None


class Follows(unittest.TestCase):
    def test_all_classes(self):
        for fact in FOLLOWING:
            told = follows(case=BOX, fact=fact)
            self.assertIs(type(told), Answer)
            self.assertIsNone(told.breaking)
            self.assertEqual(told.verdict, "always")
        for fact in OTHERS:
            told = follows(BOX, fact)
            self.assertTrue(fits(BOX, told.breaking))
            self.assertFalse(keeps(told.breaking, fact))

    def test_it_is_the_answer_to_a_claim(self):
        picks = source(331)
        for case in cases_with_stones(25, 332):
            for fact in [some_fact(picks), some_fact(picks), *case.facts]:
                self.assertEqual(follows(case, fact), answer_of(case, ("fact", fact)))
            for fact in case.facts:
                self.assertIsNone(follows(case, fact).breaking)

    def test_no_stones(self):
        for case in NO_STONES:
            with self.assertRaises(NoStones):
                follows(case, FOUR[0])


class NeedlessFacts(unittest.TestCase):
    def test_example(self):
        self.assertEqual(needless_facts(case=FIVE), ())
        self.assertEqual(needless_facts(BOX), ())
        self.assertEqual(needless_facts(NOTHING), ())

    def test_facts_that_follow(self):
        for fact in FOLLOWING:
            case = BOX.with_fact(fact)
            told = needless_facts(case)
            self.assertIn(4, told)
            self.assertEqual(told, tuple(k for k in range(5) if is_implied(without(case, [k]), case.facts[k])))
        for fact in (within(1, 1, 5), ruler(1, 1, 6), ruler(1, 1, 4), meets((0, 0)), meets((4, 0), (4, 1))):
            self.assertNotIn(4, needless_facts(BOX.with_fact(fact)))

    def test_the_same_fact_twice(self):
        self.assertEqual(needless_facts(Case(TABLE, FOUR + FOUR[:1])), (0, 4))
        self.assertEqual(needless_facts(Case(TABLE, [meets((1, 1)), meets((1, 1))])), (0, 1))
        self.assertEqual(needless_facts(Case(TABLE, [within(1, 0, 3), within(1, 0, 4), within(1, 0, 3)])), (0, 1, 2))

    def test_facts_that_the_table_has(self):
        self.assertEqual(needless_facts(Case(TABLE, [within(1, 0, 9), within(1, 0, 8), meets((-9, -9), (9, -9), (9, 9), (-9, 9))])),
                         (0, 2))

    def test_wholly(self):
        for case in cases_with_stones(40, 333):
            due = [k for k in range(len(case)) if is_implied(without(case, [k]), case.facts[k])]
            self.assertEqual(needless_facts(case), tuple(due))

    def test_no_stones(self):
        for case in NO_STONES:
            with self.assertRaises(NoStones):
                needless_facts(case)


class LeanFacts(unittest.TestCase):
    def test_the_same_fact_twice(self):
        self.assertEqual(lean_facts(case=Case(TABLE, FOUR + FOUR[:1])), (0, 1, 2, 3))
        self.assertEqual(lean_facts(Case(TABLE, [meets((1, 1))] * 3)), (0,))
        self.assertEqual(lean_facts(FIVE), (0, 1, 2, 3, 4))
        self.assertEqual(lean_facts(NOTHING), ())
        self.assertEqual(lean_facts(Case(TABLE, [within(1, 0, 9), meets((0, 0), (1, 1)), meets((1, 1))])), (2,))

    def test_the_last_goes_first(self):
        # Either of the two follows from the other; the ruler behind takes the within with it only if it stands.
        self.assertEqual(lean_facts(Case(TABLE, [within(1, 0, 4), ruler(1, 0, 4)])), (1,))
        self.assertEqual(lean_facts(Case(TABLE, [ruler(1, 0, 4), within(1, 0, 4)])), (0,))
        self.assertEqual(lean_facts(Case(TABLE, [ruler(1, 0, 4), ruler(1, 0, 4), within(1, 0, 5)])), (0,))

    def test_the_same_stones_and_none_needless(self):
        picks = source(334)
        for case in cases_with_stones(40, 335):
            told = lean_facts(case)
            self.assertEqual(list(told), sorted(set(told)))
            lean = without(case, [k for k in range(len(case)) if k not in told])
            self.assertIsNone(alike_cases(case, lean))
            self.assertEqual(needless_facts(lean), ())
            for stone in stones_in(lean, picks):
                self.assertIsNone(misfit(case, stone))
            standing = list(range(len(case)))
            for k in reversed(range(len(case))):
                rest = [one for one in standing if one != k]
                if is_implied(without(case, set(range(len(case))) - set(rest)), case.facts[k]):
                    standing = rest
            self.assertEqual(told, tuple(standing))

    def test_no_stones(self):
        for case in NO_STONES:
            with self.assertRaises(NoStones):
                lean_facts(case)


SMALL = Case(table(0, 0, 4, 2), [])
SMALL_BOX = Case(table(0, 0, 4, 2), FOUR)
COUPLES = [
    (BOX, FIVE), (FIVE, BOX), (BOX, SMALL), (SMALL, BOX), (BOX, SMALL_BOX), (SMALL_BOX, BOX), (NOTHING, SMALL), (SMALL, NOTHING),
    (BOX, BOX), (NOTHING, NOTHING), (SIDES, NOTHING), (NOTHING, SIDES), (BOX, Case(TABLE, FOUR[::-1])),
    (BOX, Case(table(-20, -20, 20, 20), FOUR + [within(1, 1, 6)])), (BOX, Case(table(1, 1, 3, 3), [])),
]


class Unlikes(unittest.TestCase):
    def test_all_fit(self):
        for case, other in COUPLES + list(zip(cases_with_stones(30, 336), cases_with_stones(30, 337))):
            told = all_fit(case=case, other=other)
            inside = all(other.table.low[k][0] * corner[k][1] <= corner[k][0] * other.table.low[k][1]
                         and corner[k][0] * other.table.high[k][1] <= other.table.high[k][0] * corner[k][1]
                         for corner in case.whole.corners for k in (0, 1))
            if inside and all(is_implied(case, fact) for fact in other.facts):
                self.assertIsNone(told)
            else:
                self.assertIs(type(told), Patch)
                self.assertTrue(fits(case, told))
                self.assertFalse(fits(other, told))

    def test_some_that_all_fit(self):
        for case, other in ((BOX, SMALL), (BOX, SMALL_BOX), (SMALL_BOX, BOX), (FIVE, Case(TABLE, FOUR)), (SMALL, NOTHING)):
            self.assertIsNone(all_fit(case, other))
        for case, other in ((SMALL, BOX), (NOTHING, SMALL), (BOX, FIVE), (BOX, Case(table(1, 1, 3, 3), []))):
            self.assertIsNotNone(all_fit(case, other))

    def test_alike(self):
        seen = set()
        for case, other in COUPLES + list(zip(cases_with_stones(30, 338), cases_with_stones(30, 339))):
            told = alike_cases(case=case, other=other)
            if told is None:
                self.assertIsNone(all_fit(case, other))
                self.assertIsNone(all_fit(other, case))
                seen.add(None)
                continue
            self.assertIs(type(told), Unlike)
            self.assertEqual(told.which, 1 if all_fit(case, other) is None else 0)
            first, second = (case, other) if told.which == 0 else (other, case)
            self.assertTrue(fits(first, told.stone))
            self.assertFalse(fits(second, told.stone))
            self.assertIsNone(unlike_fault(case=case, other=other, unlike=told))
            seen.add(told.which)
        self.assertEqual(seen, {None, 0, 1})

    def test_each_which(self):
        self.assertIsNone(alike_cases(BOX, SMALL_BOX))
        self.assertEqual(alike_cases(BOX, SMALL).which, 1)
        self.assertEqual(alike_cases(SMALL, BOX).which, 0)
        # Each of these has a stone that fits it alone: then it is the first one's.
        left, right = Case(TABLE, [within(1, 0, 1)]), Case(TABLE, [within(-1, 0, 1)])
        self.assertEqual(alike_cases(left, right).which, 0)
        self.assertEqual(alike_cases(right, left).which, 0)

    def test_no_stones(self):
        for case in NO_STONES:
            for call in (all_fit, alike_cases, lambda one, two: unlike_fault(one, two, Unlike(None, None))):
                for one, two in ((case, BOX), (BOX, case), (case, case)):
                    with self.assertRaises(NoStones):
                        call(one, two)


class UnlikeFault(unittest.TestCase):
    LEFT, RIGHT = Case(TABLE, [within(1, 0, 1)]), Case(TABLE, [within(-1, 0, 1)])

    def told(self, which, stone):
        return unlike_fault(self.LEFT, self.RIGHT, Unlike(which, stone))

    def test_right_ones(self):
        self.assertIsNone(self.told(0, patch((-2, 0))))
        self.assertIsNone(self.told(1, patch((2, 0))))
        self.assertIsNone(unlike_fault(SMALL, NOTHING, Unlike(1, patch((5, 5)))))

    def test_which(self):
        for which in JUNK + [2, -1, (0,), [1], "0", 10 ** 30, 0.0]:
            for stone in (patch((-2, 0)), patch((0, 0)), None):
                self.assertEqual(self.told(which, stone), "which")

    def test_fit(self):
        for which, stone in ((0, patch((2, 0))), (1, patch((-2, 0))), (0, patch((-10, 0))), (1, patch((-1, 0), (9, 0), (10, 1))),
                             (0, patch((-3, 0), (3, 0)))):
            self.assertEqual(self.told(which, stone), "fit")
        for thing in JUNK + [((-2, 0),), [patch((-2, 0))], self.LEFT]:
            self.assertEqual(self.told(0, thing), "fit")

    def test_alike(self):
        for which in (0, 1):
            for stone in (patch((0, 0)), patch((-1, 0), (1, 0)), patch((1, 0))):
                self.assertEqual(self.told(which, stone), "alike")
        for which in (0, 1):
            self.assertEqual(unlike_fault(BOX, BOX, Unlike(which, BOX.whole)), "alike")


class Results(unittest.TestCase):
    def test_unlike(self):
        told = Unlike(which=0, stone=SQUARE)
        self.assertEqual((told.which, told.stone), (0, SQUARE))
        self.assertTrue(told == Unlike(0, SQUARE))
        for other in (Unlike(1, SQUARE), Unlike(0, HEXAGON), Far(0, SQUARE), Answer(0, SQUARE), None, (0, SQUARE)):
            self.assertFalse(told == other)
            self.assertTrue(told != other)
        for thing in JUNK:
            self.assertIs(Unlike(thing, 1).which, thing)
            self.assertIs(Unlike(1, thing).stone, thing)


class ManyFigures(unittest.TestCase):
    def test_twelve_facts(self):
        for figures, every in ((60, 0), (60, 1), (100, 2)):
            case = twelve_facts(figures, every)
            lean = lean_facts(case)
            kept = without(case, [k for k in range(12) if k not in lean])
            self.assertIsNone(alike_cases(case, kept))
            self.assertEqual(needless_facts(kept), ())
            self.assertLessEqual({k for k in range(12) if k not in lean}, set(needless_facts(case)))
            self.assertIsNone(unlike_fault(case, NOTHING, alike_cases(case, NOTHING)))


if __name__ == "__main__":
    unittest.main()
