"""[6.1] to [6.3] Whether two stones meet: in every pair, in some, or in none."""

import unittest

from feltstone.cases import Case
from feltstone.errors import BadAmount, BadDirection, BadPlace, NoStones
from feltstone.lying import NeverIn, lying_fault, lying_in
from feltstone.meeting import MayMeet, NeverMeet, SurelyMeet, meeting, meeting_fault
from feltstone.patches import Patch
from feltstone.rounds import Round
from feltstone.spaces import (
    distance_range, farthest_fault, farthest_pair, nearest_places, pair_of_space, space_range,
)
from feltstone.steps import possible_holds, possible_steps, sure_holds, sure_steps
from feltstone.sums import possible_hulls, possible_sums, sum_reach, sum_verdict, sure_hulls, sure_sums
from tests.made_cases import (
    AT_CORNER, BESIDE, BOX, FAR, FIVE, HIGH, NOTHING, ONE_PLACE, ON_STRETCH, SMALL, TABLE, THREE_PLACES, WIDE, can_be_parted,
    fits, lot_of, meet, pairs_of_cases, stones_in, twelve_facts,
)
from tests.makers import HEXAGON, JUNK, SQUARE, amount, meets, p, patch, r, ruler, source, within
from tests.test_critical import NO_WAYS
from tests.test_rounds import is_round
from tests.test_sure import NO_PLACES, NO_STONES

PAIRS = pairs_of_cases()


def reach(stone, way):
    return max(amount(way, corner) for corner in stone.corners)


def low(stone, way):
    return min(amount(way, corner) for corner in stone.corners)


def numbered(case, entries, at):
    """Entries with the indices of patches in the place of their numbers."""
    numbers = [number for number, _ in case.patches]
    return [entry[:at] + (numbers.index(entry[at]),) + entry[at + 1:] for entry in entries]


def is_right(case, other, told):
    """Whether a result of meeting is right, by other means than the judge's."""
    if type(told) is SurelyMeet:
        if type(told.entries) is not tuple:
            return False
        entries = numbered(other, numbered(case, told.entries, 1), 2)
        return is_round(lot_of(case), lot_of(other), Round(tuple(entries)))
    if type(told) is NeverMeet:
        return reach(case.whole, told.direction) < low(other.whole, told.direction)
    if type(told) is not MayMeet or not meet(case.whole.corners, other.whole.corners):
        return False
    if not fits(case, told.one) or not fits(other, told.other):
        return False
    return reach(told.one, told.direction) < low(told.other, told.direction)


def due_kind(case, other):
    if not can_be_parted(lot_of(case), lot_of(other)):
        return SurelyMeet
    return MayMeet if meet(case.whole.corners, other.whole.corners) else NeverMeet


class Meeting(unittest.TestCase):
    def test_wholly(self):
        picks, seen = source(401), {}
        for case, other in PAIRS:
            told = meeting(case=case, other=other)
            self.assertIs(type(told), due_kind(case, other))
            self.assertTrue(is_right(case, other, told))
            self.assertIsNone(meeting_fault(case=case, other=other, told=told))
            seen[type(told)] = seen.get(type(told), 0) + 1
            for one, two in zip(stones_in(case, picks, 2), stones_in(other, picks, 2)):
                if type(told) is not MayMeet:
                    self.assertIs(meet(one.corners, two.corners), type(told) is SurelyMeet)
        self.assertTrue(all(seen[kind] >= 8 for kind in (SurelyMeet, MayMeet, NeverMeet)))

    def test_some(self):
        rows = [(WIDE, HIGH, SurelyMeet), (HIGH, WIDE, SurelyMeet), (WIDE, WIDE, MayMeet), (THREE_PLACES, THREE_PLACES, SurelyMeet),
                (THREE_PLACES, ONE_PLACE, SurelyMeet), (BOX, ONE_PLACE, MayMeet), (BOX, BOX, SurelyMeet), (SMALL, FAR, NeverMeet), (FAR, BOX, NeverMeet),
                (NOTHING, NOTHING, MayMeet), (ONE_PLACE, ONE_PLACE, SurelyMeet), (ONE_PLACE, ON_STRETCH, NeverMeet)]
        for case, other, kind in rows:
            self.assertIs(type(meeting(case, other)), kind)

    def test_wholes_that_touch(self):
        # The wholes have a side or a corner in common, so some pairs meet there, and there alone.
        for case, other in ((BOX, BESIDE), (BOX, AT_CORNER), (BESIDE, BOX), (AT_CORNER, BOX)):
            self.assertIs(type(meeting(case, other)), MayMeet)
        touching = Case(TABLE, [meets((4, 2)), within(-1, 0, -4)])
        self.assertIs(type(meeting(Case(TABLE, [meets((4, 2)), within(1, 0, 4)]), touching)), SurelyMeet)
        self.assertIs(type(meeting(Case(TABLE, [meets((4, 0), (4, 2)), within(1, 0, 4)]), touching)), MayMeet)

    def test_unlike_tables(self):
        for case, other in ((SMALL, BOX), (FAR, SMALL), (WIDE, NOTHING)):
            self.assertNotEqual(case.table, other.table)
            self.assertTrue(is_right(case, other, meeting(case, other)))

    def test_exchanged_and_led_along(self):
        for case, other in PAIRS[::3]:
            kind = type(meeting(case, other))
            self.assertIs(type(meeting(other, case)), kind)
            for lead in (lambda one: one.shifted(p(3, "-1/2")), lambda one: one.turned(), lambda one: one.mirrored(),
                         lambda one: one.grown(r("2/3"))):
                told = meeting(lead(case), lead(other))
                self.assertIs(type(told), kind)
                self.assertTrue(is_right(lead(case), lead(other), told))


class NoStonesOfTwo(unittest.TestCase):
    """NoStones() of every function of the part with two cases, behind all other errors of the function."""

    PLAIN = [meeting, lambda one, two: meeting_fault(one, two, None), lying_in, lambda one, two: lying_fault(one, two, None),
             sure_sums, possible_sums, sure_hulls, possible_hulls, sure_steps, possible_steps, sure_holds, possible_holds,
             distance_range, nearest_places, farthest_pair, lambda one, two: farthest_fault(one, two, None),
             lambda one, two: farthest_fault(one, two, 7)]
    OF_WAYS = [sum_reach, space_range, lambda one, two, way: pair_of_space(one, two, way, r(0))]

    def couples(self):
        for case in NO_STONES:
            yield from ((case, BOX), (BOX, case), (case, case), (case, NO_STONES[0]))

    def test_no_stones(self):
        for one, two in self.couples():
            for call in self.PLAIN:
                with self.assertRaises(NoStones):
                    call(one, two)
            for call in self.OF_WAYS:
                with self.assertRaises(NoStones):
                    call(one, two, (1, 0))
            with self.assertRaises(NoStones):
                sum_verdict(one, two, p(0, 0))

    def test_behind_all_other_errors(self):
        for one, two in list(self.couples()) + [(BOX, FIVE)]:
            for way in NO_WAYS:
                for call in self.OF_WAYS:
                    with self.assertRaises(BadDirection):
                        call(one, two, way)
            for place in NO_PLACES:
                with self.assertRaises(BadPlace):
                    sum_verdict(one, two, place)
            with self.assertRaises(BadAmount):
                pair_of_space(one, two, (1, 0), None)


class SurelyFault(unittest.TestCase):
    # The patches of WIDE are -1, 0 (at the right end) and 1 (at the left), those of HIGH -1, 0 (at the top) and 1.
    RIGHT = (((1, 0), 0, 1), ((0, 1), 1, 1), ((-1, 0), 1, 0), ((0, -1), 0, 0))

    def told(self, entries, case=WIDE, other=HIGH):
        return meeting_fault(case, other, SurelyMeet(entries))

    def test_right_ones(self):
        rows = [self.RIGHT[k:] + self.RIGHT[:k] for k in range(4)]
        right = [row for row in rows if is_right(WIDE, HIGH, SurelyMeet(row))]
        told = meeting(WIDE, HIGH).entries
        self.assertIsNone(self.told(list(list(entry) for entry in told)))
        self.assertIsNone(self.told([(list(way), one, two) for way, one, two in told]))
        self.assertEqual([self.told(row) for row in rows], [None if row in right else "above" for row in rows])

    def test_entries(self):
        told = meeting(WIDE, HIGH).entries
        for thing in JUNK + [(), told[:1], told[:2], iter(told), Round(told), {1: 2, 3: 4, 5: 6}, "abc"]:
            self.assertEqual(self.told(thing), "entries")

    def test_entry(self):
        told = meeting(WIDE, HIGH).entries
        way, one, two = told[0]
        wrong = JUNK + [(), (way,), (way, one), (way, one, two, 0), (way, 3, two), (way, one, 3), (way, -2, two), (way, one, -2),
                        (way, 2, two), (way, one, 2), (way, True, two), (way, one, True), (way, False, two), (way, one, False),
                        (way, float(one), two), (way, None, two), (way, one, "0"), (one, way, two), iter(told[0]), {1: 2, 3: 4, 5: 6}]
        wrong += [(thing, one, two) for thing in NO_WAYS]
        for thing in wrong:
            for k in (0, len(told) - 1):
                self.assertEqual(self.told(told[:k] + (thing,) + told[k + 1:]), "entry")

    def test_numbers_and_no_indices(self):
        # The within has no patch, so the numbers of the patches are -1, 1 and 2, while their indices are 0, 1, 2.
        case = Case(WIDE.table, [within(0, 1, 9), *WIDE.facts])
        told = meeting(case, HIGH).entries
        self.assertIsNone(self.told(told, case))
        self.assertLessEqual({one for _, one, _ in told}, {-1, 1, 2})
        self.assertEqual(self.told(meeting(WIDE, HIGH).entries, case), "entry")
        moved = tuple((way, one + 1 if one >= 0 else one, two) for way, one, two in meeting(WIDE, HIGH).entries)
        self.assertIsNone(self.told(moved, case))
        self.assertEqual(self.told([(way, 0, two) for way, _, two in told], case), "entry")

    def test_half_turn_round_and_above(self):
        told = meeting(WIDE, HIGH).entries
        self.assertEqual(self.told(told[::-1]), "half turn")
        self.assertEqual(self.told(told + told[:1]), "half turn")
        self.assertEqual(self.told((((1, 0), 0, 0), ((-1, 0), 0, 0), ((0, -1), 0, 0))), "half turn")
        self.assertEqual(self.told(told + told), "round")
        self.assertEqual(self.told([(way, -1, two) for way, _, two in told]), "above")
        self.assertEqual(self.told([(way, one, -1) for way, one, _ in told]), "above")
        for case, other in ((WIDE, WIDE), (BOX, SMALL), (FAR, SMALL), (NOTHING, NOTHING)):
            self.assertEqual(self.told(tuple((way, -1, -1) for way, _, _ in told), case, other), "above")
        # Of one place alone all rounds are right.
        self.assertIsNone(self.told([(way, -1, -1) for way, _, _ in told], ONE_PLACE, ONE_PLACE))


class OtherFaults(unittest.TestCase):
    ONE, TWO = patch((0, 0), (4, 0)), patch((0, 1), (4, 2))

    def test_kind(self):
        for thing in JUNK + [Round(()), NeverIn(0, (1, 0)), ((1, 0), self.ONE, self.TWO), SurelyMeet, (SurelyMeet(()),)]:
            self.assertEqual(meeting_fault(WIDE, WIDE, thing), "kind")

    def test_never(self):
        self.assertIsNone(meeting_fault(SMALL, FAR, NeverMeet((1, 0))))
        self.assertIsNone(meeting_fault(FAR, SMALL, NeverMeet([-1, 0])))
        for way in NO_WAYS:
            self.assertEqual(meeting_fault(SMALL, FAR, NeverMeet(way)), "direction")
            self.assertEqual(meeting_fault(BOX, BOX, NeverMeet(way)), "direction")
        for way in ((-1, 0), (0, 1), (1, 5)):
            self.assertEqual(meeting_fault(SMALL, FAR, NeverMeet(way)), "below")
        for case, other in ((BOX, BESIDE), (BOX, AT_CORNER), (WIDE, HIGH), (NOTHING, NOTHING)):
            for way in ((1, 0), (1, 1), (0, 1)):
                self.assertEqual(meeting_fault(case, other, NeverMeet(way)), "below")

    def may(self, way=(0, 1), one=ONE, two=TWO, case=WIDE, other=WIDE):
        return meeting_fault(case, other, MayMeet(way, one, two))

    def test_may(self):
        self.assertIsNone(self.may())
        self.assertIsNone(self.may([-1, 3]))
        for way in NO_WAYS:
            self.assertEqual(self.may(way), "direction")
            self.assertEqual(self.may(way, None, None), "direction")
        wrong = JUNK + [self.ONE.corners, [self.ONE], SQUARE, HEXAGON, patch((0, 0), (3, 0)), patch((0, -1), (4, 0)), patch((0, 0), (5, 0))]
        for thing in wrong:
            self.assertEqual(self.may(one=thing), "one")
            self.assertEqual(self.may(one=thing, two=thing), "one")
            self.assertEqual(self.may(two=thing), "other")
            self.assertEqual(self.may((0, -1), two=thing), "other")
        for way in ((0, -1), (1, 0), (1, 1)):
            self.assertEqual(self.may(way), "below")
        self.assertEqual(self.may(two=patch((0, 0), (4, 2))), "below")
        self.assertEqual(self.may(two=self.ONE), "below")

    def test_apart(self):
        told = MayMeet((1, 0), SMALL.whole, FAR.whole)
        self.assertEqual(meeting_fault(SMALL, FAR, told), "apart")
        self.assertEqual(meeting_fault(SMALL, FAR, MayMeet((-1, 0), SMALL.whole, FAR.whole)), "below")
        touching = MayMeet((1, 0), patch((0, 0), (3, 0)), patch((4, 1), (5, 1)))
        free = Case(TABLE, [within(1, 0, 4), meets((0, 0), (1, 0))])
        self.assertIsNone(meeting_fault(free, BESIDE, touching))

    def test_a_surely_is_no_may(self):
        self.assertEqual(meeting_fault(WIDE, HIGH, MayMeet((0, 1), patch((0, 0), (4, 0)), patch((0, 0), (0, 4)))), "below")
        self.assertEqual(meeting_fault(WIDE, HIGH, NeverMeet((0, 1))), "below")


class Results(unittest.TestCase):
    def test_results(self):
        for kind, names in ((SurelyMeet, ["entries"]), (NeverMeet, ["direction"]), (MayMeet, ["direction", "one", "other"])):
            given = [[1], SQUARE, 3][:len(names)]
            told = kind(**dict(zip(names, given)))
            self.assertEqual([getattr(told, name) for name in names], given)
            self.assertTrue(told == kind(*given))
            self.assertFalse(told != kind(*given))
            others = [kind(*given[:k], None, *given[k + 1:]) for k in range(len(given))]
            others += [None, tuple(given), *[one([1]) for one in (SurelyMeet, NeverMeet) if one is not kind]]
            for other in others:
                self.assertFalse(told == other)
                self.assertTrue(told != other)
            for thing in JUNK:
                kept = kind(*[thing] * len(names))
                self.assertTrue(all(getattr(kept, name) is thing for name in names))


class ManyFigures(unittest.TestCase):
    def test_twelve_facts(self):
        for figures, every, others in ((60, 1, 2), (60, 0, 1), (200, 3, 0)):
            case, other = twelve_facts(figures, every), twelve_facts(figures, others)
            for second in (other, other.shifted(p(9, 1)), other.shifted(p(20, 3)), case):
                told = meeting(case, second)
                self.assertIsNone(meeting_fault(case, second, told))
                self.assertTrue(is_right(case, second, told))
            self.assertIs(type(meeting(case, other.shifted(p(20, 3)))), NeverMeet)
            self.assertIs(type(case.whole), Patch)
            self.assertIs(type(meeting(case, Case(TABLE, [ruler(1, 0, 9), ruler(-1, 0, 9)]))), MayMeet)


if __name__ == "__main__":
    unittest.main()
