"""[2.10], [2.11] Quarrels, and the example [2.14]."""

import unittest
from itertools import combinations

from feltstone.cases import Case
from feltstone.facts import Meets
from feltstone.fitting import has_stone
from feltstone.quarrels import Quarrel, any_stone, quarrel_fault, quarrels_of
from tests.made_cases import (
    BOX, EMPTY, FOUR, MIXED, NOTHING, TABLE, TOO_FAR, TOO_LOW, cases_with_stones, lot_of, some_cases, some_fact,
)
from tests.makers import JUNK, SQUARE, meets, ruler, source, table, within


def is_kept(case, numbers):
    return None not in lot_of(Case(case.table, [case.facts[k] for k in numbers]))


def all_quarrels(case):
    """The least lots, of any size, that no stone keeps."""
    lots = [lot for many in range(len(case) + 1) for lot in combinations(range(len(case)), many)]
    bad = [lot for lot in lots if not is_kept(case, lot)]
    return tuple(lot for lot in bad if not any(set(other) < set(lot) for other in bad))


class Quarrels(unittest.TestCase):
    def test_example(self):
        self.assertEqual(quarrels_of(case=TOO_FAR), ((0, 1, 4),))
        self.assertEqual(quarrels_of(TOO_LOW), ((0, 3, 4), (1, 2, 4), (2, 3, 4)))
        self.assertEqual(quarrels_of(BOX), ())

    def test_of_one_two_and_three_facts(self):
        rows = [
            ([meets((20, 0))], ((0,),)),
            ([within(1, 0, -10)], ((0,),)),
            ([ruler(1, 0, 10)], ((0,),)),
            ([within(1, 0, 1), ruler(1, 0, 2)], ((0, 1),)),
            ([within(1, 0, 1), within(-1, 0, -2)], ((0, 1),)),
            ([within(1, 0, 1), meets((2, 0), (2, 5))], ((0, 1),)),
            ([meets((0, 0)), meets((5, 5))], ()),
            ([within(1, 0, 0), within(0, 1, 0), within(-1, -1, -1)], ((0, 1, 2),)),
            ([within(1, 0, 0), within(0, 1, 0), meets((0, 1), (1, 0))], ((0, 1, 2),)),
            ([within(1, 0, 0), within(0, 1, 0), meets((-1, 1), (1, -1))], ()),
            ([ruler(1, 0, 0), within(0, 1, 0), within(-1, -1, -1), meets((3, 0)), meets((11, 0))],
             ((4,), (0, 3), (0, 1, 2))),
        ]
        for facts, told in rows:
            with self.subTest(told=told):
                self.assertEqual(quarrels_of(Case(TABLE, facts)), told)

    def test_the_table_is_never_named(self):
        self.assertEqual(quarrels_of(Case(table(0, 0, 1, 1), [meets((2, 0)), within(-1, -1, -3), ruler(1, 0, "1/2")])),
                         ((0,), (1,)))
        self.assertEqual(quarrels_of(Case(table(0, 0, 2, 2), [within(1, 0, 1), within(-1, -1, -4)])), ((0, 1),))

    def test_the_same_fact_twice(self):
        self.assertEqual(quarrels_of(Case(TABLE, [within(1, 0, 1), ruler(1, 0, 2), within(1, 0, 1)])), ((0, 1), (1, 2)))
        self.assertEqual(quarrels_of(Case(TABLE, [meets((20, 0))] * 2)), ((0,), (1,)))
        self.assertEqual(quarrels_of(Case(TABLE, [ruler(1, 0, 1)] * 3)), ())

    def test_fewer_facts_first_then_ascending(self):
        facts = [within(1, 0, 0), within(0, 1, 0), within(-1, -1, -1), meets((5, 5)), meets((20, 0)), ruler(0, 1, 3)]
        self.assertEqual(quarrels_of(Case(TABLE, facts)), ((4,), (0, 3), (1, 3), (1, 5), (3, 5), (0, 1, 2)))

    def test_against_all_lots(self):
        for case in some_cases():
            self.assertEqual(quarrels_of(case), all_quarrels(case))

    def test_twelve_facts(self):
        picks = source(151)
        for _ in range(3):
            case = Case(table(-4, -3, 5, 4), [some_fact(picks) for _ in range(12)])
            told = quarrels_of(case)
            singles_to_threes = [lot for many in (1, 2, 3) for lot in combinations(range(12), many)]
            bad = [lot for lot in singles_to_threes if not is_kept(case, lot)]
            self.assertEqual(told, tuple(lot for lot in bad if not any(set(one) < set(lot) for one in bad)))
            self.assertIs(told == (), has_stone(case))
            self.assertTrue(all(type(lot) is tuple for lot in told))

    def test_a_case_has_a_stone_exactly_if_it_has_no_quarrel(self):
        for case in cases_with_stones():
            self.assertEqual(quarrels_of(case), ())
        self.assertEqual(quarrels_of(NOTHING), ())


class AnyStone(unittest.TestCase):
    def test_both_sorts(self):
        for case in cases_with_stones():
            self.assertEqual(any_stone(case=case), case.whole)
        self.assertEqual(any_stone(NOTHING), TABLE.ground)
        for case in some_cases() + [TOO_FAR, TOO_LOW]:
            if not has_stone(case):
                told = any_stone(case)
                self.assertIsInstance(told, Quarrel)
                self.assertEqual(told.facts, quarrels_of(case)[0])
                self.assertIsNone(quarrel_fault(case, told.facts))
        self.assertEqual(any_stone(TOO_FAR), Quarrel((0, 1, 4)))
        self.assertEqual(any_stone(TOO_LOW), Quarrel((0, 3, 4)))
        self.assertEqual(any_stone(Case(TABLE, MIXED)), Quarrel((0, 3)))

    def test_the_result(self):
        for thing in JUNK + [(0, 1), [0, 1]]:
            self.assertIs(Quarrel(facts=thing).facts, thing)
        self.assertTrue(Quarrel((0, 1)) == Quarrel((0, 1)))
        self.assertFalse(Quarrel((0, 1)) != Quarrel((0, 1)))
        for other in (Quarrel((0, 2)), Quarrel([0, 1]), (0, 1), None, SQUARE):
            self.assertFalse(Quarrel((0, 1)) == other)
            self.assertTrue(Quarrel((0, 1)) != other)
            self.assertFalse(other == Quarrel((0, 1)))


class QuarrelFault(unittest.TestCase):
    def test_right_ones(self):
        self.assertIsNone(quarrel_fault(case=TOO_FAR, facts=(0, 1, 4)))
        self.assertIsNone(quarrel_fault(TOO_FAR, [0, 1, 4]))
        for case in some_cases() + [TOO_LOW]:
            for lot in quarrels_of(case):
                self.assertIsNone(quarrel_fault(case, lot))
                self.assertIsNone(quarrel_fault(case, list(lot)))

    def test_facts(self):
        wrong = [[], (), (0, 1, 5), (0, 1, -1), (-1, 0), (1, 0, 4), (0, 0, 1, 4), (0, 1, 1, 4), (0, 1, 4, 4), (4, 1, 0),
                 (0, True, 4), (False, 1, 4), (0, 1, 4.0), (0, 1, None), (0, 1, "4"), "014", {0: 0, 1: 1, 4: 4}, {0, 1, 4},
                 iter([0, 1, 4]), Quarrel((0, 1, 4)), (True,), ((0, 1), (4, 1)), 4, (0, 1, 100), range(5)]
        for facts in JUNK + wrong:
            self.assertEqual(quarrel_fault(TOO_FAR, facts), "facts")
        for facts in ((), (0,), (-1,), (None,)):
            self.assertEqual(quarrel_fault(NOTHING, facts), "facts")

    def test_stone(self):
        for lot in ((0,), (4,), (0, 1), (1, 4), (0, 1, 2, 3), (2, 3, 4)):
            self.assertEqual(quarrel_fault(TOO_FAR, lot), "stone")
        self.assertEqual(quarrel_fault(BOX, (0, 1, 2, 3)), "stone")

    def test_least(self):
        for lot in ((0, 1, 2, 4), (0, 1, 3, 4), (0, 1, 2, 3, 4)):
            self.assertEqual(quarrel_fault(TOO_FAR, lot), "least")
        self.assertEqual(quarrel_fault(TOO_LOW, [0, 1, 2, 3, 4]), "least")
        self.assertEqual(quarrel_fault(Case(TABLE, [meets((20, 0)), within(1, 0, 4)]), (0, 1)), "least")
        self.assertEqual(quarrel_fault(Case(TABLE, [meets((20, 0))] * 12), tuple(range(12))), "least")

    def test_the_other_facts_have_no_part(self):
        case = Case(TABLE, [meets((20, 0)), *EMPTY])
        for lot in combinations(range(5), 2):
            fault = "stone" if is_kept(case, lot) else ("least" if 0 in lot else None)
            self.assertEqual(quarrel_fault(case, lot), fault)

    def test_against_all_lots(self):
        for case in some_cases()[:25]:
            told = all_quarrels(case)
            for many in range(1, len(case) + 1):
                for lot in combinations(range(len(case)), many):
                    fault = "stone" if is_kept(case, lot) else "least"
                    self.assertEqual(quarrel_fault(case, lot), None if lot in told else fault)

    def test_facts_of_many_figures(self):
        huge = 10 ** 299
        case = Case(TABLE, [ruler(huge, huge - 1, k) for k in range(6)] + [Meets(SQUARE)] * 5 + FOUR[:1])
        told = quarrels_of(case)
        self.assertIn((0, 5), told)
        self.assertTrue(all(quarrel_fault(case, lot) is None for lot in told))


if __name__ == "__main__":
    unittest.main()
