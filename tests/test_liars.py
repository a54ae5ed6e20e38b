"""[9.9] and [9.10] Lots of liars."""

import unittest
from itertools import combinations

from feltstone.cases import Case
from feltstone.errors import BadMost
from feltstone.fitting import has_stone
from feltstone.liars import liars_fault, lots_of_liars
from feltstone.quarrels import quarrels_of
from tests.made_cases import BOX, FOUR, NOTHING, TABLE, TOO_FAR, TOO_LOW, cases_with_stones, some_fact, twelve_facts
from tests.makers import JUNK, meets, ruler, source, table, within
from tests.results import check_errors
from tests.test_sure import NO_STONES

NO_MOSTS = JUNK + [-1, 4, 100, 1.0, "1", [1], (1,)]
# Each two of these quarrel, so all but one of them are liars.
APART = Case(TABLE, [meets((0, 0)), ruler(1, 0, -3), ruler(0, 1, -4), ruler(-1, 0, -5), within(0, 1, -6)])


def hard_cases(seed=921, many=40):
    """Cases without a stone, by chance, and some special ones."""
    picks = source(seed)
    cases = NO_STONES + [APART, TOO_FAR.with_facts(FOUR[:2]), Case(TABLE, [within(1, 0, -10)]), Case(TABLE, [within(1, 0, -10)] * 2),
                         Case(TABLE, [meets((20, 0))] * 4), Case(TABLE, [within(1, 0, -20 - k) for k in range(3)])]
    while len(cases) < many:
        case = Case(table(-5, -4, 6, 5), [some_fact(picks) for _ in range(picks.randint(2, 9))])
        if not has_stone(case):
            cases.append(case)
    return cases


CASES = hard_cases() + cases_with_stones(12, 922)


def stands(case, lot):
    return has_stone(Case(case.table, [fact for k, fact in enumerate(case.facts) if k not in lot]))


def all_lots(case, most):
    return [lot for many in range(most + 1) for lot in combinations(range(len(case)), many) if stands(case, lot)]


def least_lots(case, most):
    """All least lots of liars by going through all lots."""
    lots = all_lots(case, most)
    return tuple(lot for lot in lots if not any(set(one) < set(lot) for one in lots))


class Lots(unittest.TestCase):
    def test_example(self):
        self.assertEqual(lots_of_liars(case=TOO_FAR, most=1), ((0,), (1,), (4,)))
        self.assertEqual(lots_of_liars(TOO_FAR, 3), ((0,), (1,), (4,)))
        self.assertEqual(lots_of_liars(TOO_FAR, 0), ())
        self.assertEqual(lots_of_liars(BOX, 0), ((),))

    def test_against_going_through_all_lots(self):
        sizes = set()
        for case in CASES:
            for most in range(4):
                told = lots_of_liars(case, most)
                self.assertEqual(told, least_lots(case, most))
                self.assertTrue(all(type(lot) is tuple for lot in told))
                self.assertIsNone(liars_fault(case=case, most=most, lots=told))
                sizes |= {len(lot) for lot in told} | ({None} if not told else set())
        self.assertEqual(sizes, {None, 0, 1, 2, 3})

    def test_against_the_quarrels(self):
        for case in CASES[::2]:
            quarrels = quarrels_of(case)
            for most in range(4):
                right = all_lots(case, most)
                for many in range(most + 1):
                    for lot in combinations(range(len(case)), many):
                        self.assertEqual(lot in right, all(set(lot) & set(quarrel) for quarrel in quarrels))

    def test_equal_facts_count_one_by_one(self):
        case = TOO_FAR.with_fact(FOUR[0])
        self.assertEqual(lots_of_liars(case, 1), ((1,), (4,)))
        self.assertEqual(lots_of_liars(case, 2), ((1,), (4,), (0, 5)))
        three = case.with_fact(FOUR[0])
        self.assertEqual(lots_of_liars(three, 2), ((1,), (4,)))
        self.assertEqual(lots_of_liars(three, 3), ((1,), (4,), (0, 5, 6)))

    def test_fewer_facts_than_most(self):
        for most in range(4):
            self.assertEqual(lots_of_liars(NOTHING, most), ((),))
            self.assertEqual(lots_of_liars(Case(TABLE, [meets((20, 0))]), most), ((0,),) if most else ())
            self.assertEqual(lots_of_liars(Case(TABLE, [meets((20, 0)), within(1, 0, -10)]), most), ((0, 1),) if most > 1 else ())

    def test_too_many_liars(self):
        for most in range(4):
            self.assertEqual(lots_of_liars(APART, most), () if most < 3 else least_lots(APART, 3))
        self.assertEqual(lots_of_liars(Case(TABLE, [meets((20, 0))] * 4), 3), ())

    def test_bad_most(self):
        rows = []
        for case in (BOX, TOO_FAR, NO_STONES[4]):
            for most in NO_MOSTS:
                rows.append((lambda case=case, most=most: lots_of_liars(case, most), BadMost))
                rows += [(lambda case=case, most=most, lots=lots: liars_fault(case, most, lots), BadMost) for lots in (((),), None)]
        check_errors(self, rows)


class LiarsFault(unittest.TestCase):
    def fault(self, lots, most=1, case=TOO_FAR):
        return liars_fault(case, most, lots)

    def test_right_ones_in_any_order(self):
        for lots in (((0,), (1,), (4,)), ((4,), (0,), (1,)), ((1,), (4,), (0,))):
            self.assertIsNone(self.fault(lots))
        self.assertIsNone(self.fault((), 0))
        self.assertIsNone(self.fault(((),), 2, BOX))
        doubled = TOO_FAR.with_fact(FOUR[0])
        self.assertIsNone(self.fault(((0, 5), (4,), (1,)), 2, doubled))
        picks = source(923)
        for case in CASES:
            lots = list(lots_of_liars(case, 3))
            picks.shuffle(lots)
            self.assertIsNone(self.fault(tuple(lots), 3, case))

    def test_lots(self):
        wrong = JUNK + [[(0,), (1,), (4,)], ([0], [1], [4]), ([0], (1,), (4,)), ((0,), (1,), (4,), (4,)), ((0,), (1,), (5,)), ((0,), (1,), (-1,)),
                        ((0,), (1,), (4, 4)), ((0,), (1,), 4), (0, 1, 4), ((False,), (1,), (4,)), ((0,), (True,), (4,)), ((0.0,), (1,), (4,)),
                        ((0,), (1,), (None,)), ((0,), (1,), "4"), ((0,), (1,), {4: 4}), ((0,), (1,), (1, 4))]
        for lots in wrong:
            self.assertEqual(self.fault(lots), "lots")
        self.assertEqual(self.fault(((1,), (4,), (5, 0)), 2, TOO_FAR.with_fact(FOUR[0])), "lots")
        self.assertEqual(self.fault(((0,),), 0), "lots")
        self.assertEqual(self.fault(((0, 1, 2, 3),), 3), "lots")
        # What is wrong with the form is told ahead of all else.
        self.assertEqual(self.fault(((2,), (0,), (0,))), "lots")

    def test_stone(self):
        for lots in (((2,),), ((0,), (1,), (4,), (3,)), ((),), ((0,), (1,), (4,), ())):
            self.assertEqual(self.fault(lots), "stone")
        self.assertEqual(self.fault(((0,), (0, 1), (2, 3)), 2), "stone")
        self.assertEqual(self.fault(((0, 1), (0, 2)), 2, APART), "stone")

    def test_within(self):
        for lots in (((0,), (1,), (4,), (0, 1)), ((2, 4), (0,), (1,), (4,)), ((0,), (0, 2, 3))):
            self.assertEqual(self.fault(lots, 3), "within")
        self.assertEqual(self.fault(((), (1,)), 1, BOX), "within")

    def test_lacking(self):
        for lots in ((), ((0,), (1,)), ((4,),), ((0,), (1,), (2, 4)), ((0, 1), (4,))):
            self.assertEqual(self.fault(lots, 2), "lacking")
        self.assertEqual(self.fault((), 0, BOX), "lacking")
        self.assertEqual(self.fault(((2,),), 1, BOX), "lacking")
        self.assertEqual(self.fault((), 1, TOO_LOW), "lacking")

    def test_each_lot_left_out(self):
        for case in CASES:
            lots = lots_of_liars(case, 3)
            for k in range(len(lots)):
                self.assertEqual(self.fault(lots[:k] + lots[k + 1:], 3, case), "lacking")


class ManyFigures(unittest.TestCase):
    def test_twelve_facts(self):
        for figures, every in ((60, 1), (300, 0), (300, 3)):
            case = twelve_facts(figures, every)
            self.assertEqual(lots_of_liars(case, 3), ((),))
            wrong = case.without_fact(4).with_fact(ruler(3, 1, 40))
            told = lots_of_liars(wrong, 2)
            self.assertEqual(told, ((11,),))
            self.assertIsNone(liars_fault(wrong, 2, told))
            self.assertEqual(liars_fault(wrong, 2, ()), "lacking")


if __name__ == "__main__":
    unittest.main()
