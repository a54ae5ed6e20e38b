"""[6.4] Whether the first stone of a pair lies in the second one: in every pair, in some, or in none."""

import unittest

from feltstone.cases import Case
from feltstone.lying import MayIn, NeverIn, SurelyIn, lying_fault, lying_in
from feltstone.meeting import NeverMeet
from feltstone.patches import Patch
from feltstone.sure import Sure, sure_of, sure_places
from tests.made_cases import (
    AT_CORNER, BESIDE, BOX, FAR, HIGH, NOTHING, ONE_PLACE, ON_STRETCH, SMALL, TABLE, THREE_PLACES, WIDE, fits, lies_on,
    lot_of, meet, pairs_of_cases, stones_in, twelve_facts,
)
from tests.makers import HEXAGON, JUNK, SQUARE, holds, meets, p, patch, r, source, table, within
from tests.test_critical import NO_WAYS
from tests.test_meeting import low, reach
from tests.test_sure import is_sure_told

PAIRS = pairs_of_cases(60, 411)
IN_CORNER = Case(table(0, 0, 1, 1), [])
ON_RIM = Case(TABLE, [within(1, 0, 0), within(-1, 0, 0), within(0, 1, 4), within(0, -1, 0)])
IN_MIDST = Case(TABLE, [meets((1, 1)), within(1, 0, 1), within(0, 1, 1), within(-1, -1, -2)])


def is_right(case, other, told):
    """Whether a result of lying_in is right, by other means than the judge's."""
    if type(told) is SurelyIn:
        if type(told.rounds) is not tuple or len(told.rounds) != len(case.whole):
            return False
        return all(is_sure_told(other, corner, Sure(entries)) for corner, entries in zip(case.whole.corners, told.rounds))
    if type(told) is NeverIn:
        return reach(case.patch_at(told.number), told.direction) < low(other.whole, told.direction)
    if type(told) is not MayIn or not fits(case, told.inner) or not fits(other, told.avoider):
        return False
    return lies_on(told.inner, other.whole) and not lies_on(case.whole, told.avoider)


def due_kind(case, other):
    sure = sure_places(other)
    if sure is not None and lies_on(case.whole, sure):
        return SurelyIn
    return MayIn if all(meet(one.corners, other.whole.corners) for one in lot_of(case)) else NeverIn


class LyingIn(unittest.TestCase):
    def test_wholly(self):
        picks, seen = source(412), {}
        for case, other in PAIRS + [(IN_CORNER, THREE_PLACES), (ON_RIM, THREE_PLACES), (IN_MIDST, THREE_PLACES)]:
            told = lying_in(case=case, other=other)
            self.assertIs(type(told), due_kind(case, other))
            self.assertTrue(is_right(case, other, told))
            self.assertIsNone(lying_fault(case=case, other=other, told=told))
            seen[type(told)] = seen.get(type(told), 0) + 1
            for one, two in zip(stones_in(case, picks, 2), stones_in(other, picks, 2)):
                inside = all(holds(two.corners, corner) for corner in one.corners)
                if type(told) is not MayIn:
                    self.assertIs(inside, type(told) is SurelyIn)
        self.assertTrue(all(seen[kind] >= 6 for kind in (SurelyIn, MayIn, NeverIn)))

    def test_some(self):
        rows = [
            (ONE_PLACE, THREE_PLACES, SurelyIn), (IN_CORNER, THREE_PLACES, SurelyIn), (ON_RIM, THREE_PLACES, SurelyIn),
            (ON_STRETCH, THREE_PLACES, SurelyIn), (IN_MIDST, THREE_PLACES, SurelyIn), (THREE_PLACES, THREE_PLACES, MayIn),
            (ONE_PLACE, ONE_PLACE, SurelyIn), (ONE_PLACE, BOX, MayIn), (BOX, ONE_PLACE, NeverIn), (NOTHING, NOTHING, MayIn),
            (SMALL, FAR, NeverIn), (BOX, BESIDE, NeverIn), (WIDE, HIGH, MayIn), (WIDE, SMALL, NeverIn), (NOTHING, AT_CORNER, MayIn),
        ]
        for case, other, kind in rows:
            self.assertIs(type(lying_in(case, other)), kind)
        self.assertEqual([len(one.whole) for one in (ONE_PLACE, ON_RIM, ON_STRETCH, IN_CORNER)], [1, 2, 2, 4])

    def test_rounds_for_each_corner(self):
        told = lying_in(IN_CORNER, THREE_PLACES)
        self.assertEqual(told.rounds, tuple(sure_of(THREE_PLACES, corner).entries for corner in IN_CORNER.whole.corners))

    def test_which_patch_is_never_in(self):
        told = lying_in(BOX, Case(table(0, 0, 3, 2), []))
        self.assertEqual((told.number, told.direction), (0, told.direction))
        self.assertLess(told.direction[0], 0)
        self.assertEqual(lying_in(SMALL, FAR).number in (-1, 1), True)

    def test_led_along(self):
        for case, other in PAIRS[::5]:
            kind = type(lying_in(case, other))
            for lead in (lambda one: one.shifted(p(3, "-1/2")), lambda one: one.turned(), lambda one: one.mirrored(),
                         lambda one: one.grown(r("2/3"))):
                told = lying_in(lead(case), lead(other))
                self.assertIs(type(told), kind)
                self.assertTrue(is_right(lead(case), lead(other), told))


class SurelyInFault(unittest.TestCase):
    RIGHT = lying_in(IN_CORNER, THREE_PLACES).rounds

    def told(self, rounds):
        return lying_fault(IN_CORNER, THREE_PLACES, SurelyIn(rounds))

    def test_right_ones(self):
        self.assertIsNone(self.told(self.RIGHT))
        self.assertIsNone(self.told([[[list(way), number] for way, number in entries] for entries in self.RIGHT]))
        self.assertIsNone(self.told([entries[1:] + entries[:1] for entries in self.RIGHT]))

    def test_rounds(self):
        for thing in JUNK + [(), self.RIGHT[:3], self.RIGHT + self.RIGHT[:1], iter(self.RIGHT), dict.fromkeys(range(4)), "abcd",
                             Sure(self.RIGHT)]:
            self.assertEqual(self.told(thing), "rounds")

    def changed(self, entries, k=3):
        return self.told(self.RIGHT[:k] + (entries,) + self.RIGHT[k + 1:])

    def test_words_of_sure_fault(self):
        right = self.RIGHT[3]
        for k in (0, 3):
            for thing in JUNK + [(), right[:2], Sure(right)]:
                self.assertEqual(self.changed(thing, k), "entries")
            for thing in [None, ((1, 0),), ((1, 0), 7), ((1, 0), True), ((1, 0), 2), ((2, 4), 0), ((1, 0), -2), ((1, 0), 0, 0)] + [
                    (way, 0) for way in NO_WAYS]:
                self.assertEqual(self.changed(right[:1] + (thing,) + right[2:], k), "entry")
            self.assertEqual(self.changed(right[::-1], k), "half turn")
            self.assertEqual(self.changed(right + right, k), "round")
            self.assertEqual(self.changed([(way, -1) for way, _ in right], k), "above")

    def test_a_round_of_another_corner(self):
        found = {self.changed(self.RIGHT[0], k) for k in (1, 2, 3)}
        self.assertLessEqual(found, {None, "above"})
        place = ONE_PLACE.shifted(p(-1, 3))
        told = lying_in(place, THREE_PLACES)
        self.assertIsNone(lying_fault(place, THREE_PLACES, told))
        self.assertEqual(lying_fault(ONE_PLACE, THREE_PLACES, told), "above")

    def test_corner_by_corner(self):
        right = self.RIGHT
        self.assertEqual(self.told(((), None, *right[2:])), "entries")
        self.assertEqual(self.told((right[0][::-1], (), *right[2:])), "half turn")
        self.assertEqual(self.told((right[0], right[1] * 2, (), right[3])), "round")

    def test_where_it_is_not_so(self):
        told = [sure_of(THREE_PLACES, corner).entries for corner in IN_CORNER.whole.corners]
        self.assertEqual(lying_fault(IN_CORNER, NOTHING, SurelyIn([[(way, -1) for way, _ in entries] for entries in told])), "above")


class OtherFaults(unittest.TestCase):
    def test_kind(self):
        for thing in JUNK + [NeverMeet((1, 0)), (0, (1, 0)), Sure(()), SurelyIn, (NeverIn(0, (1, 0)),)]:
            self.assertEqual(lying_fault(BOX, BOX, thing), "kind")

    def never(self, number, way, case=BOX, other=AT_CORNER):
        return lying_fault(case, other, NeverIn(number, way))

    def test_never(self):
        self.assertIsNone(self.never(2, (1, 0)))
        self.assertIsNone(self.never(2, [1, 0]))
        self.assertIsNone(self.never(3, (0, 1)))
        self.assertIsNone(self.never(-1, (1, 0), SMALL, FAR))
        self.assertIsNone(self.never(1, (5, 1), SMALL, FAR))

    def test_number(self):
        for number in JUNK + [4, -2, 10 ** 30, 2.0, "2", (2,)]:
            for way in ((1, 0), None):
                self.assertEqual(self.never(number, way), "number")
        # A within has no patch.
        self.assertEqual(self.never(0, (1, 0), SMALL, FAR), "number")

    def test_direction(self):
        for way in NO_WAYS:
            for number in (2, -1):
                self.assertEqual(self.never(number, way), "direction")

    def test_below(self):
        for number, way in ((2, (-1, 0)), (2, (0, 1)), (0, (1, 0)), (1, (0, 1)), (-1, (1, 0)), (-1, (1, 1)), (0, (1, 1))):
            self.assertEqual(self.never(number, way), "below")
        self.assertEqual(self.never(0, (1, 0), BOX, BESIDE), "below")
        self.assertEqual(self.never(-1, (-1, 0), SMALL, FAR), "below")

    INNER, AVOIDER = patch((4, 1)), patch((1, 1), (2, 2))

    def may(self, inner=None, avoider=None):
        case, other = Case(TABLE, [meets((4, 0), (4, 9))]), Case(TABLE, [within(-1, 0, 0), meets((1, 1))])
        return lying_fault(case, other, MayIn(inner or self.INNER, avoider or self.AVOIDER))

    def test_may(self):
        self.assertIsNone(self.may())
        for thing in [thing for thing in JUNK if thing] + [SQUARE, patch((4, -1)), patch((4, 1), (10, 1)), [self.INNER], self.INNER.corners]:
            self.assertEqual(self.may(inner=thing), "inner")
            self.assertEqual(self.may(inner=thing, avoider=thing), "inner")
        self.assertEqual(lying_fault(BOX, BOX, MayIn(None, None)), "inner")
        for thing in (patch((-1, 0), (4, 1)), patch((-9, 0), (4, 0), (4, 3))):
            self.assertEqual(self.may(inner=thing), "in")
            self.assertEqual(self.may(inner=thing, avoider=SQUARE.corners), "in")
        for thing in [thing for thing in JUNK if thing] + [patch((1, 2)), patch((-1, 1), (1, 1)), HEXAGON, self.AVOIDER.corners]:
            self.assertEqual(self.may(avoider=thing), "avoider")
        self.assertEqual(lying_fault(BOX, BOX, MayIn(patch((0, 0), (4, 2)), None)), "avoider")

    def test_holds(self):
        case = Case(table(0, 0, 2, 2), [meets((1, 1))])
        self.assertEqual(lying_fault(case, NOTHING, MayIn(patch((1, 1)), SQUARE)), "holds")
        self.assertEqual(lying_fault(case, NOTHING, MayIn(SQUARE, patch((-1, -1), (3, -1), (3, 3), (-1, 3)))), "holds")
        self.assertIsNone(lying_fault(case, NOTHING, MayIn(SQUARE, patch((0, 0), (2, 0), (2, 2)))))
        self.assertIsNone(lying_fault(case, NOTHING, MayIn(patch((1, 1)), patch((8, 8)))))
        self.assertEqual(lying_fault(IN_CORNER, THREE_PLACES, MayIn(IN_CORNER.whole, patch((0, 0), (4, 0), (0, 4)))), "holds")


class Results(unittest.TestCase):
    def test_results(self):
        for kind, names in ((SurelyIn, ["rounds"]), (NeverIn, ["number", "direction"]), (MayIn, ["inner", "avoider"])):
            given = [[1], SQUARE][:len(names)]
            told = kind(**dict(zip(names, given)))
            self.assertEqual([getattr(told, name) for name in names], given)
            self.assertTrue(told == kind(*given))
            self.assertFalse(told != kind(*given))
            others = [kind(*given[:k], None, *given[k + 1:]) for k in range(len(given))]
            others += [None, tuple(given), *[one([1], SQUARE) for one in (NeverIn, MayIn) if one is not kind]]
            for other in others:
                self.assertFalse(told == other)
                self.assertTrue(told != other)
            for thing in JUNK:
                kept = kind(*[thing] * len(names))
                self.assertTrue(all(getattr(kept, name) is thing for name in names))


class ManyFigures(unittest.TestCase):
    def test_twelve_facts(self):
        for figures, every, others in ((60, 1, 2), (60, 2, 0), (200, 0, 3)):
            case, other = twelve_facts(figures, every), twelve_facts(figures, others)
            sure = sure_places(twelve_facts(figures, 0))
            inside = Case(table(-1, -1, 1, 1), [meets((0, 0))])
            for one, two in ((case, other), (case, other.shifted(p(20, 3))), (inside, twelve_facts(figures, 0)), (case, case)):
                told = lying_in(one, two)
                self.assertIsNone(lying_fault(one, two, told))
                self.assertTrue(is_right(one, two, told))
            self.assertIs(type(sure), Patch)
            self.assertIs(type(lying_in(inside, twelve_facts(figures, 0))), SurelyIn)


if __name__ == "__main__":
    unittest.main()
