"""[10.3] to [10.5] Wishes, and which of them a case does not grant."""

import unittest

from feltstone.cases import Case
from feltstone.errors import BadWish
from feltstone.fitting import has_stone
from feltstone.quarrels import Quarrel, quarrel_fault, quarrels_of
from feltstone.sure import Missed
from feltstone.telling import Several, Single, one_stone, one_stone_fault
from feltstone.wishes import Broken, broken_fault, broken_wish, check_wishes
from tests.made_cases import (
    BOX, FIVE, NOTHING, ONE_PLACE, ON_STRETCH, TABLE, THREE_PLACES, TOO_FAR, TOO_LOW, cases_with_stones, fits, keeps, some_fact,
    stones_in, twelve_facts,
)
from tests.makers import JUNK, SQUARE, holds, meets, p, patch, r, ruler, source, within
from tests.results import check_errors, check_result
from tests.test_liars import hard_cases
from tests.test_sure import NO_PLACES, NO_STONES, surely
from tests.test_withliars import follows

FACT, PLACE = within(1, 1, 5), p(2, 1)
ALL = [("stone",), ("single",), ("sure", PLACE), ("possible", PLACE), ("lacking", PLACE), ("follows", FACT), ("free", FACT), ("barred", FACT)]
NO_FACTS = JUNK + [1, SQUARE, FACT.half, [FACT], BOX]
NO_WISHES = [thing for thing in JUNK] + [
    1, (), [], ("",), ("Stone",), (b"stone",), ("stone", None), ("stone", PLACE), ("single", 1), ("sure",), ("lacking",), ("sure", PLACE, PLACE),
    ("possible", FACT), ("follows",), ("follows", PLACE), ("free", FACT, FACT), ("barred", SQUARE), ("put", FACT), (PLACE, "sure"), ("sure ", PLACE), "stone",
    (["stone"],), {"stone": 1}, (None,), ("wish", PLACE), ("keeps", FACT),
] + [("sure", place) for place in NO_PLACES] + [("lacking", place) for place in NO_PLACES[:12]] + [("barred", fact) for fact in NO_FACTS] + [
    ("follows", fact) for fact in NO_FACTS] + [("free", fact) for fact in NO_FACTS[:9]] + [("possible", place) for place in NO_PLACES[:12]]


def is_granted(case, wish):
    """Whether a case grants a wish, by what it says of all stones that fit."""
    if not has_stone(case):
        return False
    word, thing = wish[0], wish[-1]
    if word == "stone":
        return True
    if word == "single":
        return type(one_stone(case)) is Single
    if word == "sure":
        return surely(case, thing)
    if word in ("possible", "lacking"):
        return holds(case.whole.corners, thing) == (word == "possible")
    if word == "barred":
        return not has_stone(case.with_fact(thing))
    return follows(case, thing) == (word == "follows")


def is_shown(case, wish, why):
    """Whether a why is as [10.4] tells it for a wish that is not granted."""
    if not has_stone(case):
        return type(why) is Quarrel and why.facts in quarrels_of(case)
    word, thing = wish[0], wish[-1]
    if word == "single":
        return type(why) is Several and one_stone_fault(case, why) is None
    if word in ("possible", "free"):
        return why is None
    if not fits(case, why):
        return False
    if word in ("sure", "lacking"):
        return holds(why.corners, thing) == (word == "lacking")
    return keeps(why, thing) == (word == "barred")


def some_wishes(case, picks):
    """A wish of each sort, with places and facts of the case and others."""
    places = [p(picks.randint(-5, 5), picks.randint(-5, 5)), p(30, 0)] + (list(case.whole.corners) if case.whole else [])
    facts = [some_fact(picks), within(1, 0, 9), meets((20, 1)), *case.facts]
    wishes = [("stone",), ("single",)] + [(word, picks.choice(places)) for word in ("sure", "possible", "lacking")]
    return wishes + [(word, picks.choice(facts)) for word in ("follows", "free", "barred")]


CASES = cases_with_stones(30, 951) + [ONE_PLACE, ON_STRETCH, THREE_PLACES, NOTHING, FIVE, BOX]
BROKEN = hard_cases(952, 20)


class Checked(unittest.TestCase):
    def test_lists_and_tuples(self):
        for wishes in (ALL[:6], ALL[2:], tuple(ALL[:1]), [list(wish) for wish in ALL[1:7]], [("sure", [r(2), r(1)])] * 6):
            told = check_wishes(wishes=wishes)
            self.assertIs(type(told), tuple)
            self.assertTrue(all(type(wish) is tuple for wish in told))
            self.assertEqual([wish[0] for wish in told], [wish[0] for wish in wishes])
            self.assertTrue(all(wish[1] in (PLACE, FACT) for wish in told if len(wish) > 1))
        self.assertEqual(check_wishes([["lacking", [r(2), r(1)]]]), (("lacking", PLACE),))

    def test_many(self):
        calls = (check_wishes, lambda wishes: broken_wish(BOX, wishes), lambda wishes: broken_wish(TOO_FAR, wishes), lambda wishes: broken_fault(BOX, wishes, None))
        wrong = JUNK + [1, (), [], {0: ALL[0]}, (wish for wish in ALL), "ab", ALL[:1] * 7, tuple(ALL[:1] * 7), [None] * 7]
        check_errors(self, [(lambda call=call, wishes=wishes: call(wishes), BadWish, 0) for call in calls for wishes in wrong])

    def test_each_wrong_wish(self):
        rows = []
        for wrong in NO_WISHES:
            for k in range(6):
                rows.append((lambda wrong=wrong, k=k: check_wishes(ALL[:k] + [wrong] + [None] * (5 - k)), BadWish, k))
            rows.append((lambda wrong=wrong: broken_wish(BOX, (ALL[4], wrong)), BadWish, 1))
            rows.append((lambda wrong=wrong: broken_wish(TOO_FAR, (ALL[4], wrong)), BadWish, 1))
            rows.append((lambda wrong=wrong: broken_fault(BOX, (ALL[4], wrong), None), BadWish, 1))
        check_errors(self, rows)


class BrokenWish(unittest.TestCase):
    def test_each_wish_granted_and_not(self):
        picks, seen = source(953), set()
        for case in CASES + BROKEN:
            for wish in some_wishes(case, picks) + some_wishes(case, picks) + [("sure", PLACE)]:
                told = broken_wish(case=case, wishes=[wish])
                self.assertEqual(told is None, is_granted(case, wish))
                if told is not None:
                    self.assertIs(type(told), Broken)
                    self.assertEqual(told.index, 0)
                    self.assertTrue(is_shown(case, wish, told.why))
                    self.assertIsNone(broken_fault(case=case, wishes=(wish,), broken=told))
                seen.add((wish[0], has_stone(case), told is None))
        due = {(wish[0], True, granted) for wish in ALL for granted in (True, False)} | {(wish[0], False, False) for wish in ALL}
        self.assertEqual(seen, due - {("stone", True, False)})

    def test_the_first_that_is_not_granted(self):
        picks, seen = source(954), set()
        for case in CASES:
            wishes = some_wishes(case, picks)
            picks.shuffle(wishes)
            wishes = [list(wish) for wish in wishes[:picks.randint(1, 6)]]
            told = broken_wish(case, wishes)
            granted = [is_granted(case, wish) for wish in wishes]
            self.assertEqual(told and told.index, granted.index(False) if False in granted else None)
            if told is not None:
                self.assertTrue(is_shown(case, wishes[told.index], told.why))
                seen.add((wishes[told.index][0], type(told.why).__name__))
        self.assertGreater(len(seen), 4)

    def test_a_case_without_a_stone_grants_none(self):
        for case in BROKEN + NO_STONES:
            for wishes in (ALL[:6], ALL[2:], [("stone",)], [("lacking", p(50, 50)), ("stone",)]):
                told = broken_wish(case, wishes)
                self.assertEqual(told.index, 0)
                self.assertIs(type(told.why), Quarrel)
                self.assertIn(told.why.facts, quarrels_of(case))
                self.assertIsNone(quarrel_fault(case, told.why.facts))

    def test_some(self):
        self.assertIsNone(broken_wish(BOX, [("stone",), ("sure", PLACE), ("possible", p(0, 0)), ("lacking", p(0, 3)), ("follows", ruler(1, 0, 4)), ("free", FACT)]))
        self.assertEqual(broken_wish(BOX, [("stone",), ("possible", p(0, 3)), ("sure", p(0, 0))]), Broken(1, None))
        self.assertEqual(broken_wish(BOX, [("free", ruler(1, 0, 4))]), Broken(0, None))
        self.assertIsNone(broken_wish(BOX, [("barred", within(1, 0, 3)), ("barred", meets((5, 5)))]))
        self.assertEqual(broken_wish(ONE_PLACE, [("single",), ("lacking", p(1, 1))]), Broken(1, ONE_PLACE.whole))
        # A place out of the table is lacking.
        self.assertIsNone(broken_wish(NOTHING, [("lacking", p(10, 0)), ("possible", p(9, 9))]))


class BrokenFault(unittest.TestCase):
    WISHES = [("stone",), ("single",), ("sure", p(0, 0)), ("lacking", PLACE), ("follows", FACT), ("barred", FACT)]
    MORE = [("possible", p(0, 3)), ("free", ruler(1, 0, 4)), ("possible", PLACE), ("free", FACT), ("sure", PLACE), ("barred", meets((5, 5)))]
    STRETCH = patch((0, 2), (4, 0))

    def fault(self, index, why, wishes=WISHES, case=BOX):
        return broken_fault(case, wishes, Broken(index, why))

    def test_broken(self):
        for case in (BOX, TOO_FAR):
            for thing in JUNK + [(2, self.STRETCH), Missed(2, self.STRETCH), Broken, [Broken(2, self.STRETCH)]]:
                self.assertEqual(broken_fault(case, self.WISHES, thing), "broken")

    def test_index(self):
        for case in (BOX, TOO_FAR):
            for index in JUNK + [-1, 6, 100, 2.0, "2", (2,)]:
                for why in (self.STRETCH, None):
                    self.assertEqual(self.fault(index, why, case=case), "index")
        self.assertEqual(self.fault(1, None, self.WISHES[2:3]), "index")

    def test_right_ones_whatever_stands_ahead(self):
        for index, why in ((1, Several(BOX.whole, self.STRETCH)), (2, self.STRETCH), (3, BOX.whole), (3, self.STRETCH), (4, BOX.whole), (5, self.STRETCH)):
            self.assertIsNone(self.fault(index, why))
            self.assertIsNone(self.fault(index, why, tuple(list(wish) for wish in self.WISHES)))
        for index in (0, 1):
            self.assertIsNone(self.fault(index, None, self.MORE))

    def test_why_of_single(self):
        for why in JUNK + [BOX.whole, Several(BOX.whole, BOX.whole), Several(BOX.whole, SQUARE), Several(None, None), Single(BOX.whole, (0, 1, 2, 3)), Quarrel((0,)),
                           [Several(BOX.whole, self.STRETCH)]]:
            self.assertEqual(self.fault(1, why), "why")
        self.assertEqual(self.fault(0, Single(ONE_PLACE.whole, (-1,)), [("single",)], ONE_PLACE), "why")
        self.assertEqual(self.fault(0, Several(ONE_PLACE.whole, ONE_PLACE.whole), [("single",)], ONE_PLACE), "why")

    def test_why_of_places_and_facts(self):
        wrong = JUNK + [BOX.whole.corners, [self.STRETCH], SQUARE, patch((0, 0)), Several(BOX.whole, self.STRETCH), Quarrel((0, 1))]
        for index in range(2, 6):
            for why in wrong:
                self.assertEqual(self.fault(index, why), "why")
        # Each of these fits, but shows the opposite.
        for index, why in ((2, BOX.whole), (4, self.STRETCH), (5, BOX.whole)):
            self.assertEqual(self.fault(index, why), "why")
        self.assertEqual(self.fault(0, self.STRETCH, [("lacking", p(0, 0))]), "why")
        self.assertIsNone(self.fault(0, BOX.whole, [("lacking", p(0, 0))]))

    def test_why_of_wishes_that_are_granted(self):
        for index in (2, 3):
            for why in (None, BOX.whole, self.STRETCH):
                self.assertEqual(self.fault(index, why, self.MORE), "why")
        for index in (4, 5):
            for why in (None, *stones_in(BOX, source(955), 10)):
                self.assertEqual(self.fault(index, why, self.MORE), "why")

    def test_why_of_possible_and_free(self):
        for index in (0, 1):
            for why in JUNK[1:] + [BOX.whole, Quarrel((0,))]:
                self.assertEqual(self.fault(index, why, self.MORE), "why")

    def test_stone_is_granted_by_each_case_that_has_one(self):
        for why in (None, BOX.whole, self.STRETCH, Quarrel((0,)), Several(BOX.whole, self.STRETCH)):
            self.assertEqual(self.fault(0, why), "why")

    def test_why_of_no_stone(self):
        for case, right in ((TOO_FAR, (0, 1, 4)), (TOO_LOW, (1, 2, 4))):
            for index in range(6):
                self.assertIsNone(self.fault(index, Quarrel(right), case=case))
                self.assertIsNone(self.fault(index, Quarrel(list(right)), case=case))
                for why in JUNK + [right, BOX.whole, Quarrel(None), Quarrel(()), Quarrel((0, 1)), Quarrel((0, 1, 2, 4)), Quarrel((4, 1, 0)), Quarrel((0, 1, 3)),
                                   Quarrel((False, True, 4)), Several(BOX.whole, self.STRETCH)]:
                    self.assertEqual(self.fault(index, why, case=case), "why")
        self.assertIsNone(self.fault(0, Quarrel((2, 3, 4)), case=TOO_LOW))

    def test_it_is_the_result(self):
        check_result(self, Broken, "index", "why")
        self.assertFalse(Broken(1, SQUARE) == Missed(1, SQUARE))


class ManyFigures(unittest.TestCase):
    def test_twelve_facts(self):
        for figures, every in ((60, 1), (300, 0), (300, 3)):
            case = twelve_facts(figures, every)
            for word in ("follows", "free", "barred"):
                told = broken_wish(case, [("stone",), (word, case.facts[5]), ("single",)])
                self.assertEqual(told.index, 2 if word == "follows" else 1)
                self.assertIsNone(broken_fault(case, [("stone",), (word, case.facts[5]), ("single",)], told))
            wrong = case.without_fact(4).with_fact(ruler(3, 1, 40))
            told = broken_wish(wrong, [("stone",)])
            self.assertIsNone(broken_fault(wrong, [("stone",)], told))


if __name__ == "__main__":
    unittest.main()
