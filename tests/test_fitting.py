"""[2.6] to [2.9] Stones that fit, and choices."""

import unittest
from itertools import islice, product

from feltstone.cases import Case
from feltstone.errors import BadChoice, NoStones, NotFit
from feltstone.facts import Meets
from feltstone.fitting import (
    check_case, check_choice, choice_fault, choice_in, corner_choices, empty_patches, full_patches, has_stone, misfit,
    stone_of_choice,
)
from feltstone.patches import hull_of, lies_in
from tests.made_cases import (
    BOX, EMPTY, FIVE, FOUR, MIXED, NOTHING, SIDES, TABLE, TOO_FAR, TOO_LOW, cases_with_stones, fits, keeps, lies_on, lot_of,
    place_in, some_cases, stones_in,
)
from tests.makers import JUNK, SHAPES, SQUARE, bow, holds, meets, p, patch, ps, ruler, some_places, source, table, within

LYING = patch((0, 0), (4, 2))
NO_STONES = [TOO_FAR, TOO_LOW, Case(TABLE, MIXED), Case(TABLE, EMPTY), Case(TABLE, [meets((20, 0))])]


def stones_for(case, picks):
    stones = SHAPES + [hull_of(some_places(picks, picks.randint(1, 4), 6)) for _ in range(6)]
    return stones + [case.table.ground] + (stones_in(case, picks) if None not in lot_of(case) else [])


class Cases(unittest.TestCase):
    def test_with_a_stone(self):
        for case in cases_with_stones():
            self.assertIs(has_stone(case=case), True)
            self.assertEqual(empty_patches(case=case), ())
            self.assertEqual(check_case(case=case), case)
            self.assertEqual(full_patches(case=case), case.patches)

    def test_without_a_stone(self):
        for case in NO_STONES:
            self.assertIs(has_stone(case), False)
            for call in (check_case, full_patches):
                with self.assertRaises(NoStones):
                    call(case)

    def test_empty_patches(self):
        self.assertEqual(empty_patches(TOO_FAR), (4,))
        self.assertEqual(empty_patches(TOO_LOW), (-1, 0, 1, 2, 3, 4))
        self.assertEqual(empty_patches(Case(TABLE, MIXED)), (3, 5))
        self.assertEqual(empty_patches(Case(TABLE, EMPTY)), (-1, 1, 2))
        self.assertEqual(empty_patches(Case(TABLE, [within(1, 0, -10)])), (-1,))
        self.assertEqual(empty_patches(Case(TABLE, [meets((0, 0)), meets((10, 0))])), (1,))
        self.assertIs(type(empty_patches(TOO_FAR)), tuple)

    def test_a_stone_fits_exactly_if_no_patch_is_empty(self):
        for case in some_cases():
            empty = tuple(k for k, lot in case.patches if lot is None)
            self.assertEqual(empty_patches(case), empty)
            self.assertIs(has_stone(case), empty == ())
            if empty == ():
                self.assertTrue(fits(case, case.whole))


class Misfit(unittest.TestCase):
    def test_example(self):
        self.assertIsNone(misfit(case=BOX, stone=LYING))
        self.assertIsNone(misfit(BOX, BOX.whole))
        self.assertEqual(misfit(BOX, patch((0, 0), (3, 2))), 0)
        self.assertEqual(misfit(BOX, patch((0, 0), (4, 1))), 1)
        self.assertEqual(misfit(BOX, patch((1, 0), (4, 2))), 2)
        self.assertEqual(misfit(BOX, patch((0, 1), (4, 2))), 3)
        self.assertEqual(misfit(BOX, patch((0, 0), (5, 2))), 0)

    def test_off_the_table(self):
        for case in (NOTHING, BOX, TOO_LOW):
            for stone in (patch((10, 0)), patch((0, 0), (0, "19/2")), patch((-10, -10), (10, -10), (0, 10)),
                          patch((-9, -9), ("1000000000000000001/111111111111111111", 0))):
                self.assertEqual(misfit(case, stone), -1)
        small = Case(table(0, 0, 4, 2), FOUR)
        self.assertEqual(misfit(small, patch((0, 0), (4, "21/10"))), -1)

    def test_on_the_rim_of_the_table(self):
        self.assertIsNone(misfit(NOTHING, TABLE.ground))
        self.assertIsNone(misfit(NOTHING, patch((9, -9))))
        self.assertIsNone(misfit(NOTHING, patch((-9, 9), (9, 9))))
        self.assertIsNone(misfit(Case(table(0, 0, 4, 2), FOUR), LYING))

    def test_the_first_fact_of_several(self):
        self.assertEqual(misfit(Case(TABLE, MIXED), patch((4, 4))), 0)
        self.assertEqual(misfit(Case(TABLE, MIXED), patch((-4, 4), (-3, 4))), 1)
        self.assertEqual(misfit(Case(TABLE, MIXED), patch((0, 0), (4, 1))), 3)
        self.assertEqual(misfit(Case(TABLE, [FOUR[0], FOUR[0]]), SQUARE), 0)
        self.assertEqual(misfit(Case(TABLE, [within(1, 0, 2), meets((2, 2)), meets((2, 3))]), SQUARE), 2)

    def test_each_kind_at_its_rim(self):
        self.assertIsNone(misfit(Case(TABLE, [within(1, 1, 4), ruler(1, 0, 2), meets((2, 2), (5, 5))]), SQUARE))
        self.assertEqual(misfit(Case(TABLE, [within(1, 1, "39/10")]), SQUARE), 0)
        self.assertEqual(misfit(Case(TABLE, [ruler(1, 0, "21/10")]), SQUARE), 0)
        self.assertEqual(misfit(Case(TABLE, [meets(("21/10", 2), (5, 5))]), SQUARE), 0)

    def test_against_the_words_of_the_document(self):
        picks = source(141)
        for case in some_cases() + cases_with_stones():
            for stone in stones_for(case, picks):
                told = misfit(case, stone)
                if not lies_on(stone, case.table.ground):
                    self.assertEqual(told, -1)
                else:
                    broken = [k for k, fact in enumerate(case.facts) if not keeps(stone, fact)]
                    self.assertEqual(told, broken[0] if broken else None)

    def test_what_lies_between_a_stone_that_fits_and_the_whole_fits(self):
        picks = source(142)
        for case in cases_with_stones():
            for stone in stones_in(case, picks):
                self.assertIsNone(misfit(case, stone))
                more = hull_of(stone.corners + tuple(place_in(case.whole, picks) for _ in range(3)))
                self.assertIsNone(misfit(case, more))

    def test_a_stone_that_fits_is_one_between_a_choice_and_the_whole(self):
        picks = source(143)
        for case in cases_with_stones():
            for stone in stones_for(case, picks):
                told = lies_in(stone, case.whole) and all(misfit(Case(TABLE, [Meets(lot)]), stone) is None
                                                          for lot in lot_of(case) if len(lot) < 17)
                self.assertIs(misfit(case, stone) is None, told)


class CheckChoice(unittest.TestCase):
    CHOICE = ps((0, 0), (4, 2), (4, 2), (0, 0), (0, 0))

    def refused(self, case, places, index):
        for call in (check_choice, stone_of_choice):
            with self.assertRaises(BadChoice) as caught:
                call(case, places)
            self.assertEqual(caught.exception.index, index)

    def test_example(self):
        self.assertEqual(check_choice(case=BOX, places=self.CHOICE), self.CHOICE)
        self.assertEqual(stone_of_choice(case=BOX, places=self.CHOICE), LYING)

    def test_lists_and_tuples(self):
        for places in (list(self.CHOICE), [list(place) for place in self.CHOICE], tuple(map(list, self.CHOICE))):
            before = repr(places)
            told = check_choice(BOX, places)
            self.assertEqual(told, self.CHOICE)
            self.assertEqual({type(told)} | {type(place) for place in told}, {tuple})
            self.assertEqual(stone_of_choice(BOX, places), LYING)
            self.assertEqual(repr(places), before)

    def test_too_many_too_few_or_no_row(self):
        wrong = [self.CHOICE[:4], self.CHOICE + self.CHOICE[:1], [], (), dict.fromkeys(self.CHOICE), iter(self.CHOICE),
                 LYING, "01234", (place for place in self.CHOICE), self.CHOICE[:4] + (None,) * 2]
        for places in JUNK + wrong:
            self.refused(BOX, places, 0)

    def test_entries_of_another_kind(self):
        for thing in JUNK + [(0, 0), ((0, 1),), (4, 2), patch((0, 0)), ((0, 1), (0, 1), (0, 1)), ((0, 2), (0, 1)), "00"]:
            for k in range(5):
                self.refused(BOX, self.CHOICE[:k] + (thing,) + self.CHOICE[k + 1:], k)

    def test_entries_out_of_their_patch(self):
        for k, place in enumerate(ps((0, "-1/9"), ("39/10", 1), (0, "19/10"), ("1/10", 0), (4, "1/10"))):
            self.refused(BOX, self.CHOICE[:k] + (place,) + self.CHOICE[k + 1:], k)

    def test_the_first_wrong_entry(self):
        self.refused(BOX, self.CHOICE[:2] + (None, p(9, 9), None), 2)
        self.refused(BOX, self.CHOICE[:2] + (p(9, 9), None, None), 2)
        self.refused(BOX, ps((9, 9)) * 5, 0)
        self.refused(BOX, [None] * 4, 0)

    def test_no_stones_comes_first(self):
        for case in NO_STONES:
            for places in (None, [], [None] * len(case.patches), ps((0, 0)) * len(case.patches)):
                for call in (check_choice, stone_of_choice):
                    with self.assertRaises(NoStones):
                        call(case, places)

    def test_choices_of_many_cases(self):
        picks = source(144)
        for case in cases_with_stones():
            for _ in range(4):
                places = tuple(place_in(lot, picks) for lot in lot_of(case))
                self.assertEqual(check_choice(case, places), places)
                stone = stone_of_choice(case, places)
                self.assertEqual(stone, hull_of(places))
                self.assertTrue(fits(case, stone))

    def test_a_case_without_facts(self):
        self.assertEqual(check_choice(NOTHING, ps((9, 9))), ps((9, 9)))
        self.assertEqual(stone_of_choice(NOTHING, [p(1, "1/2")]), patch((1, "1/2")))
        self.refused(NOTHING, ps((9, 10)), 0)
        self.refused(NOTHING, (), 0)


class ChoiceIn(unittest.TestCase):
    def test_example(self):
        told = choice_in(case=BOX, stone=LYING)
        self.assertEqual((type(told), len(told)), (tuple, 5))
        self.assertEqual(told[1:], ps((4, 2), (4, 2), (0, 0), (0, 0)))
        self.assertIn(told[0], LYING)

    def test_of_stones_that_fit(self):
        picks = source(145)
        for case in cases_with_stones():
            for stone in stones_in(case, picks):
                told = choice_in(case, stone)
                self.assertEqual(check_choice(case, told), told)
                self.assertTrue(all(holds(stone.corners, place) for place in told))
                self.assertIsNone(choice_fault(case, stone, told))

    def test_of_stones_that_do_not_fit(self):
        picks = source(146)
        for case in NO_STONES + some_cases() + cases_with_stones():
            for stone in stones_for(case, picks):
                fact = misfit(case, stone)
                if fact is not None:
                    with self.assertRaises(NotFit) as caught:
                        choice_in(case, stone)
                    self.assertEqual(caught.exception.fact, fact)

    def test_where_no_stone_fits(self):
        for case, stone, fact in [(TOO_FAR, LYING, 4), (TOO_LOW, LYING, 4), (TOO_FAR, patch((10, 0)), -1),
                                  (Case(TABLE, EMPTY), SQUARE, 0), (Case(TABLE, [meets((20, 0))]), SQUARE, 0)]:
            with self.assertRaises(NotFit) as caught:
                choice_in(case, stone)
            self.assertEqual(caught.exception.fact, fact)


class ChoiceFault(unittest.TestCase):
    CHOICE = CheckChoice.CHOICE

    def test_right_ones(self):
        for places in (self.CHOICE, list(self.CHOICE), [list(place) for place in self.CHOICE]):
            self.assertIsNone(choice_fault(case=BOX, stone=LYING, places=places))
        self.assertIsNone(choice_fault(BOX, BOX.whole, self.CHOICE))
        self.assertIsNone(choice_fault(BOX, LYING, ps((2, 1), (4, 2), (4, 2), (0, 0), (0, 0))))

    def test_many(self):
        for places in JUNK + [self.CHOICE[:4], self.CHOICE + self.CHOICE[:1], [], LYING, [None] * 4, iter(self.CHOICE)]:
            self.assertEqual(choice_fault(BOX, LYING, places), "many")
        self.assertEqual(choice_fault(TOO_LOW, LYING, ()), "many")

    def test_place(self):
        for thing in JUNK + [(0, 0), patch((0, 0)), ((0, 2), (0, 1)), "00"]:
            for k in range(5):
                self.assertEqual(choice_fault(BOX, LYING, self.CHOICE[:k] + (thing,) + self.CHOICE[k + 1:]), "place")

    def test_patch(self):
        for k, place in enumerate(ps((0, "-1/9"), (2, 1), (2, 1), (2, 1), (2, 1))):
            self.assertEqual(choice_fault(BOX, LYING, self.CHOICE[:k] + (place,) + self.CHOICE[k + 1:]), "patch")

    def test_a_patch_without_a_place(self):
        self.assertEqual(choice_fault(TOO_FAR, LYING, self.CHOICE + ps((4, 2))), "patch")
        self.assertEqual(choice_fault(TOO_LOW, LYING, self.CHOICE + ps((4, 2))), "patch")
        self.assertEqual(choice_fault(TOO_LOW, LYING, [None] + [p(0, 0)] * 5), "place")

    def test_stone(self):
        for k, place in enumerate(ps((1, 0), (4, 1), (3, 2), (0, 1), (1, 0))):
            self.assertEqual(choice_fault(BOX, LYING, self.CHOICE[:k] + (place,) + self.CHOICE[k + 1:]), "stone")

    def test_entry_by_entry(self):
        self.assertEqual(choice_fault(BOX, LYING, ps((1, 0), (9, 9)) + (None,) * 3), "stone")
        self.assertEqual(choice_fault(BOX, LYING, ps((0, 0), (9, 9)) + (None,) * 3), "patch")
        self.assertEqual(choice_fault(BOX, LYING, (None,) + ps((9, 9), (4, 1), (0, 0), (0, 0))), "place")

    def test_stones_that_do_not_fit(self):
        self.assertEqual(choice_fault(BOX, patch((20, 20)), self.CHOICE), "stone")
        self.assertIsNone(choice_fault(BOX, patch((-20, -20), (20, -20), (0, 20)), ps((0, 0), (4, 0), (0, 2), (0, 0), (0, 0))))


class CornerChoices(unittest.TestCase):
    def test_all_in_order(self):
        for case in cases_with_stones():
            rows = [lot.corners for lot in lot_of(case)]
            many = 1
            for row in rows:
                many *= len(row)
            if many < 3000:
                told = list(corner_choices(case=case))
                self.assertEqual(told, list(product(*rows)))
                self.assertTrue(all(type(places) is tuple for places in told))
                self.assertTrue(all(misfit(case, hull_of(places)) is None for places in told[::97]))

    def test_example(self):
        told = list(corner_choices(BOX))
        self.assertEqual(len(told), 64)
        self.assertEqual(told[0], ps((0, 0), (4, 0), (0, 2), (0, 0), (0, 0)))
        self.assertEqual(told[1], ps((0, 0), (4, 0), (0, 2), (0, 0), (4, 0)))
        self.assertEqual(told[2], ps((0, 0), (4, 0), (0, 2), (0, 2), (0, 0)))
        self.assertEqual(told[63], ps((0, 2), (4, 2), (4, 2), (0, 2), (4, 0)))
        self.assertEqual(list(corner_choices(NOTHING)), [(place,) for place in TABLE.ground.corners])

    def test_no_stones(self):
        for case in NO_STONES:
            with self.assertRaises(NoStones):
                list(islice(corner_choices(case), 1))

    def test_the_first_ones_of_millions(self):
        case = Case(table(-1, -1, 300, 300), [Meets(bow(16))] * 12)
        told = list(islice(corner_choices(case), 40))
        first = (case.whole.corners[0],) + (p(0, 0),) * 12
        self.assertEqual(told[0], first)
        self.assertEqual(told[15], first[:12] + ps((15, 225)))
        self.assertEqual(told[16], first[:11] + ps((1, 1), (0, 0)))
        self.assertEqual(told[39], first[:11] + ps((2, 4), (7, 49)))

    def test_two_at_once(self):
        one, two = corner_choices(FIVE), corner_choices(FIVE)
        for _ in range(5):
            self.assertEqual(next(one), next(two))
        self.assertNotEqual(next(one), next(corner_choices(SIDES)))


if __name__ == "__main__":
    unittest.main()
