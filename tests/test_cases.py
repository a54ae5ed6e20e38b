"""[2.4], [2.5], [2.12], [2.13] Cases, and the example [2.14]."""

import unittest
from itertools import combinations

from feltstone.cases import Case
from feltstone.errors import BadCase, BadPlace, BadSize, NoFact
from feltstone.facts import Meets, Ruler, Within, is_kept
from feltstone.patches import (
    common_patch, cut_patch, grow_patch, hull_of, lies_in, line_patch, mirror_patch, shift_patch, turn_patch,
)
from tests.made_cases import EMPTY, FOUR, MIXED, NOTHING, TABLE, some_cases, some_fact
from tests.makers import (
    JUNK, SQUARE, amount, grid, holds, meets, number, p, patch, r, ruler, some_places, source, table, within,
)


def known(case):
    """All that a case shows."""
    return (case.table.low, case.table.high, list(case.facts), case.whole, list(case.patches))


class Making(unittest.TestCase):
    def refused(self, given, index, what):
        with self.assertRaises(BadCase) as caught:
            Case(*given)
        self.assertEqual((caught.exception.index, caught.exception.what), (index, what))

    def test_attributes(self):
        case = Case(table=TABLE, facts=FOUR)
        self.assertEqual(case.table, TABLE)
        self.assertEqual(case.facts, tuple(FOUR))
        self.assertIs(type(case.facts), tuple)
        self.assertEqual(len(case), 4)
        self.assertEqual(list(case), FOUR)
        self.assertEqual([fact for fact in case], FOUR)

    def test_0_12_and_13_facts(self):
        self.assertEqual((NOTHING.facts, len(NOTHING), list(NOTHING)), ((), 0, []))
        self.assertEqual(Case(TABLE, ()).facts, ())
        twelve = FOUR * 3
        self.assertEqual(Case(TABLE, twelve).facts, tuple(twelve))
        self.assertEqual(len(Case(TABLE, tuple(twelve))), 12)
        self.refused((TABLE, twelve + FOUR[:1]), 0, "many")
        self.refused((TABLE, tuple(twelve + ["no fact"])), 0, "many")
        self.refused((TABLE, ["no fact"] * 13), 0, "many")

    def test_the_first_error(self):
        for thing in JUNK + [1, (TABLE.low, TABLE.high), TABLE.ground, NOTHING]:
            self.refused((thing, FOUR), 0, "table")
            self.refused((thing, None), 0, "table")
            self.refused((thing, ["no fact"]), 0, "table")
        for thing in JUNK + [1, FOUR[0], Case(TABLE, FOUR), dict.fromkeys("ab"), (fact for fact in FOUR)]:
            self.refused((TABLE, thing), 0, "many")
        for thing in JUNK + [1, SQUARE, Within, FOUR[0].half, NOTHING]:
            self.refused((TABLE, [thing]), 0, "fact")
            self.refused((TABLE, (*FOUR, thing)), 4, "fact")
            self.refused((TABLE, [*FOUR[:2], thing, *FOUR[2:], thing]), 2, "fact")
            self.refused((TABLE, (*FOUR, *FOUR, *FOUR[:3], thing)), 11, "fact")

    def test_a_list_that_is_changed_behind_the_call(self):
        facts = list(FOUR)
        case = Case(TABLE, facts)
        before = known(case)
        facts[0] = "no fact"
        facts.pop()
        self.assertEqual(known(case), before)
        self.assertEqual(len(case), 4)

    def test_the_same_fact_twice(self):
        case = Case(TABLE, [FOUR[0], FOUR[1], FOUR[0]])
        self.assertEqual(len(case), 3)
        self.assertEqual([one for one, _ in case.patches], [-1, 0, 1, 2])
        self.assertEqual(case.patch_at(0), case.patch_at(2))

    def test_equality(self):
        case = Case(TABLE, FOUR)
        self.assertTrue(case == Case(table(-9, -9, 9, 9), tuple(FOUR)))
        self.assertFalse(case != Case(TABLE, FOUR))
        others = [Case(TABLE, FOUR[::-1]), Case(TABLE, FOUR[:3]), Case(TABLE, FOUR + FOUR[:1]), NOTHING, tuple(FOUR),
                  FOUR, None, case.whole, TABLE, Case(table(-9, -9, 9, 10), FOUR), Case(TABLE, [within(1, 0, 4)] + FOUR[1:])]
        for other in others:
            self.assertFalse(case == other)
            self.assertTrue(case != other)
            self.assertFalse(other == case)


class Patches(unittest.TestCase):
    def test_no_facts(self):
        self.assertEqual(NOTHING.whole, TABLE.ground)
        self.assertEqual(NOTHING.patches, ((-1, TABLE.ground),))
        self.assertEqual(NOTHING.patch_at(-1), TABLE.ground)

    def test_example(self):
        case = Case(TABLE, FOUR)
        self.assertEqual(case.whole, patch((0, 0), (4, 0), (4, 2), (0, 2)))
        self.assertEqual(case.patches, (
            (-1, case.whole), (0, patch((4, 0), (4, 2))), (1, patch((0, 2), (4, 2))), (2, patch((0, 0), (0, 2))),
            (3, patch((0, 0), (4, 0)))))
        seven = case.with_fact(ruler(1, 1, 7))
        self.assertEqual(seven.whole, case.whole)
        self.assertIsNone(seven.patch_at(4))
        below = case.with_fact(ruler(1, 1, -1))
        self.assertIsNone(below.whole)
        self.assertEqual(below.patches, tuple((k, None) for k in range(-1, 5)))

    def test_each_kind(self):
        case = Case(TABLE, MIXED)
        whole = patch((-9, -3), (4, -3), (4, 1), (-4, 9), (-9, 9))
        self.assertEqual(case.whole, whole)
        self.assertEqual(case.patches, (
            (-1, whole), (1, patch((0, 0), (4, 0), (4, 1), (0, 5))), (2, patch((4, -3), (4, 1))), (3, None), (5, None),
            (6, patch((-4, 9), (4, 1)))))
        self.assertIs(type(case.patches), tuple)
        self.assertTrue(all(type(couple) is tuple for couple in case.patches))

    def test_a_whole_that_is_none(self):
        case = Case(TABLE, EMPTY)
        self.assertIsNone(case.whole)
        self.assertEqual(case.patches, ((-1, None), (1, None), (2, None)))
        for one in (-1, 1, 2):
            self.assertIsNone(case.patch_at(one))

    def test_a_whole_of_one_place_or_a_stretch(self):
        case = Case(TABLE, [ruler(1, 0, 1), ruler(-1, 0, -1), within(0, 1, 2), meets((0, 0), (3, 0))])
        self.assertEqual(case.whole, patch((1, -9), (1, 2)))
        self.assertEqual([one for _, one in case.patches], [case.whole] * 3 + [patch((1, 0))])
        case = case.with_fact(ruler(0, -1, -2))
        self.assertEqual(case.whole, patch((1, 2)))
        self.assertEqual([one for _, one in case.patches], [case.whole] * 3 + [None, case.whole])

    def test_meets_patches_are_cut_to_the_whole_of_all_facts(self):
        case = Case(TABLE, [Meets(SQUARE), within(1, 1, 1), within(0, -1, "-1/2")])
        self.assertEqual(case.patch_at(0), patch((0, "1/2"), ("1/2", "1/2"), (0, 1)))
        self.assertEqual(Case(table(1, 1, 5, 5), [Meets(SQUARE)]).patch_at(0), patch((1, 1), (2, 1), (2, 2), (1, 2)))

    def test_against_places_one_by_one(self):
        places = grid(-5, 6)
        for case in some_cases():
            ground = case.table.ground.corners
            halves = [fact.half for fact in case if fact.half is not None]
            for place in places:
                free = holds(ground, place) and all(amount(way, place) <= number(end) for way, end in halves)
                self.assertIs(case.whole is not None and place in case.whole, free)
                for one, lot in case.patches[1:]:
                    fact = case.facts[one]
                    if isinstance(fact, Meets):
                        there = free and holds(fact.patch.corners, place)
                    else:
                        there = free and amount(fact.direction, place) == number(fact.amount)
                    self.assertIs(lot is not None and place in lot, there)

    def test_patches_are_told_by_cuts(self):
        for case in some_cases():
            whole = case.table.ground
            for fact in case:
                if not isinstance(fact, Meets) and whole is not None:
                    whole = cut_patch(whole, *fact.half)
            told = [(-1, whole)]
            for one, fact in enumerate(case.facts):
                if isinstance(fact, Ruler):
                    told.append((one, whole and line_patch(whole, *fact.half)))
                elif isinstance(fact, Meets):
                    told.append((one, whole and common_patch(whole, fact.patch)))
            self.assertEqual(case.patches, tuple(told))
            self.assertEqual(case.whole, whole)

    def test_patch_at(self):
        for case in some_cases():
            for one, lot in case.patches:
                self.assertEqual(case.patch_at(number=one), lot)

    def test_patch_at_of_numbers_that_no_patch_has(self):
        case = Case(TABLE, MIXED)
        for thing in JUNK + [0, 4, 7, 8, -2, 100, 1.0, (1,), [1], "1", r(1)]:
            with self.assertRaises(NoFact) as caught:
                case.patch_at(thing)
            self.assertIs(caught.exception.number, thing)
        for case in (NOTHING, Case(TABLE, EMPTY)):
            with self.assertRaises(NoFact):
                case.patch_at(0)


class Changed(unittest.TestCase):
    def setUp(self):
        self.case = Case(TABLE, MIXED)
        self.before = known(self.case)

    def tearDown(self):
        self.assertEqual(known(self.case), self.before)

    def refused(self, call, index, what):
        with self.assertRaises(BadCase) as caught:
            call()
        self.assertEqual((caught.exception.index, caught.exception.what), (index, what))

    def unknown(self, call, thing):
        with self.assertRaises(NoFact) as caught:
            call()
        self.assertIs(caught.exception.number, thing)

    def test_with_fact(self):
        self.assertEqual(self.case.with_fact(FOUR[3]), Case(TABLE, MIXED + FOUR[3:]))
        self.assertEqual(NOTHING.with_fact(fact=FOUR[0]), Case(TABLE, FOUR[:1]))
        for thing in JUNK + [1, [FOUR[0]], SQUARE]:
            self.refused(lambda: self.case.with_fact(thing), 8, "fact")
            self.refused(lambda: NOTHING.with_fact(thing), 0, "fact")
        full = Case(TABLE, FOUR * 3)
        self.refused(lambda: full.with_fact(FOUR[0]), 0, "many")
        self.refused(lambda: full.with_fact("no fact"), 0, "many")

    def test_with_facts(self):
        for more in (FOUR, tuple(FOUR), [], ()):
            self.assertEqual(self.case.with_facts(more), Case(TABLE, MIXED + list(more)))
        self.assertEqual(NOTHING.with_facts(facts=FOUR), Case(TABLE, FOUR))
        self.assertIsNot(self.case.with_facts([]), self.case)
        for thing in JUNK + [1, FOUR[0], self.case, (fact for fact in FOUR)]:
            self.refused(lambda: self.case.with_facts(thing), 0, "many")
        for thing in JUNK + [1, FOUR, self.case]:
            self.refused(lambda: self.case.with_facts([FOUR[0], thing]), 9, "fact")
        self.refused(lambda: self.case.with_facts(FOUR + FOUR[:1]), 0, "many")
        self.refused(lambda: self.case.with_facts(["no fact"] * 5), 0, "many")
        self.refused(lambda: self.case.with_facts(FOUR[:3] + ["no fact"]), 11, "fact")

    def test_with_table(self):
        other = table(-3, -3, 3, 20)
        self.assertEqual(self.case.with_table(table=other), Case(other, MIXED))
        self.assertEqual(self.case.with_table(other).table, other)
        for thing in JUNK + [1, TABLE.ground, (TABLE.low, TABLE.high), self.case]:
            self.refused(lambda: self.case.with_table(thing), 0, "table")

    def test_without_fact(self):
        for k in range(8):
            self.assertEqual(self.case.without_fact(number=k), Case(TABLE, MIXED[:k] + MIXED[k + 1:]))
        for thing in JUNK + [-1, 8, 100, -8, 1.0, [1], (1,), "0", r(1)]:
            self.unknown(lambda: self.case.without_fact(thing), thing)
        self.unknown(lambda: NOTHING.without_fact(0), 0)

    def test_without_facts(self):
        for many in range(4):
            for gone in combinations(range(8), many):
                left = Case(TABLE, [fact for k, fact in enumerate(MIXED) if k not in gone])
                self.assertEqual(self.case.without_facts(gone), left)
                self.assertEqual(self.case.without_facts(list(gone[::-1]) + list(gone)), left)
        self.assertEqual(self.case.without_facts(numbers=list(range(8))), NOTHING)
        self.assertIsNot(self.case.without_facts(()), self.case)

    def test_without_facts_refuses(self):
        for thing in JUNK + [1, 0, -1, self.case, FOUR[0]]:
            self.unknown(lambda: self.case.without_facts(thing), thing)
        for thing in JUNK + [-1, 8, 1.0, [1], (1,), "0", r(1)]:
            self.unknown(lambda: self.case.without_facts([thing]), thing)
            self.unknown(lambda: self.case.without_facts((0, 7, thing, 99)), thing)
        self.unknown(lambda: NOTHING.without_facts([0]), 0)
        self.assertEqual(NOTHING.without_facts([]), NOTHING)

    def test_led_along(self):
        step, size = p("-7/3", 5), r("2/5")
        for case in some_cases():
            rows = [(case.shifted(list(step)), lambda one: one.shifted(step), lambda lot: shift_patch(lot, step)),
                    (case.turned(), lambda one: one.turned(), turn_patch),
                    (case.mirrored(), lambda one: one.mirrored(), mirror_patch),
                    (case.grown(size), lambda one: one.grown(size), lambda lot: grow_patch(lot, size))]
            for led, lead, lead_patch in rows:
                self.assertEqual(led.table, lead(case.table))
                self.assertEqual(led.facts, tuple(lead(fact) for fact in case))
                self.assertEqual(led.whole, case.whole and lead_patch(case.whole))
                self.assertEqual(led.patches, tuple((k, lot and lead_patch(lot)) for k, lot in case.patches))

    def test_led_along_refuses(self):
        for case in (self.case, NOTHING):
            for thing in JUNK + [1, (1, 1), (r(1),), (r(1), 1), ((2, 4), r(1)), ([1, 1], r(1))]:
                with self.assertRaises(BadPlace):
                    case.shifted(thing)
            for thing in JUNK + [1, 0, r(0), r(-2), [1, 1], (2, 4), (1, 0)]:
                with self.assertRaises(BadSize):
                    case.grown(thing)


def keeps_all(case, stone):
    return lies_in(stone, case.table.ground) and all(is_kept(fact, stone) for fact in case)


class Further(unittest.TestCase):
    def test_a_stone_keeps_all_exactly_if_it_has_a_place_in_each_patch_of_the_case(self):
        picks = source(83)
        seen = [0, 0]
        for case in some_cases():
            stones = [hull_of(some_places(picks, picks.randint(1, 5), 5)) for _ in range(4)]
            for whole in [case.whole] if case.whole is not None else []:
                stones += [whole] + [hull_of(picks.sample(whole.corners, picks.randint(1, len(whole)))) for _ in range(4)]
            for stone in stones:
                in_patches = case.whole is not None and lies_in(stone, case.whole) and all(
                    lot is not None and common_patch(stone, lot) is not None for _, lot in case.patches)
                self.assertIs(keeps_all(case, stone), in_patches)
                seen[in_patches] += 1
        self.assertGreater(min(seen), 20)

    def test_a_further_fact_leaves_no_new_place(self):
        picks = source(81)
        for case in some_cases():
            if len(case) < 12:
                more = case.with_fact(some_fact(picks))
                for one, lot in case.patches:
                    later = more.patch_at(one)
                    self.assertTrue(later is None or lot is not None and lies_in(later, lot))

    def test_the_order_of_facts_means_nothing_but_numbers(self):
        picks = source(82)
        for case in some_cases():
            order = list(range(len(case)))
            picks.shuffle(order)
            other = Case(case.table, [case.facts[k] for k in order])
            self.assertEqual(other.whole, case.whole)
            for k, one in enumerate(order):
                if not isinstance(case.facts[one], Within):
                    self.assertEqual(other.patch_at(k), case.patch_at(one))


if __name__ == "__main__":
    unittest.main()
