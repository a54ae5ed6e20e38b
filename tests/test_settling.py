"""[9.6] to [9.8] Directions that settle a place; what the example [9.13] says of them."""

import unittest
from fractions import Fraction
from itertools import combinations

from feltstone.cases import Case
from feltstone.errors import BadDirections, BadPlace, NoStones
from feltstone.patches import Patch, hull_of
from feltstone.settling import Unsettled, least_settlers, settles, settling_fault
from feltstone.telling import Several
from tests.made_cases import (
    BOX, FIVE, NOTHING, ONE_PLACE, ON_STRETCH, TABLE, THREE_PLACES, can_be_parted, cases_with_stones, fits, lot_of, lowest,
    place_in, stones_in, twelve_facts,
)
from tests.makers import DIRECTIONS, HEXAGON, JUNK, SQUARE, amount, holds, meets, numbers, p, patch, ps, r, source, within
from tests.results import check_errors, check_result
from tests.test_critical import NO_WAYS
from tests.test_reaches import NEAR, reach
from tests.test_sure import NO_PLACES, NO_STONES, surely
from tests.test_telling import NO_ROWS, alone_at

CASES = cases_with_stones(30, 911) + [ONE_PLACE, ON_STRETCH, THREE_PLACES, NOTHING, FIVE, BOX]
# Stones on a line, of which some reach farther.
LINE = Case(TABLE, [within(1, 1, 3), within(-1, -1, -3), meets((1, 2), (2, 1)), within(-1, 0, 1), within(1, 0, 5)])


def part_at(whole, way, place):
    """The part of a whole that is at or beyond a place along a direction, by corners and crossings of sides."""
    due, places = amount(way, place), [corner for corner in whole.corners if amount(way, corner) >= amount(way, place)]
    for one, other in zip(whole.corners, whole.corners[1:] + whole.corners[:1]):
        low, high = amount(way, one), amount(way, other)
        if (low - due) * (high - due) < 0:
            share = Fraction(due - low) / (high - low)
            (ax, ay), (bx, by) = numbers(one), numbers(other)
            places.append(p(ax + share * (bx - ax), ay + share * (by - ay)))
    return hull_of(places)


def is_settled(case, ways, place):
    """Whether directions settle a place, just as [9.6] tells it."""
    if not holds(case.whole.corners, place):
        return True
    parts = [part_at(case.whole, way, place) for way in ways]
    return not can_be_parted(lot_of(case) + parts, [Patch((place,))])


def some_of(case, picks):
    """Places in the whole, on its rim, at its corners, and outside."""
    corners = case.whole.corners
    (ax, ay), (bx, by) = numbers(corners[0]), numbers(corners[-1])
    return [place_in(case.whole, picks), p((ax + bx) / 2, (ay + by) / 2), picks.choice(corners), picks.choice(corners),
            p(picks.randint(-6, 6), picks.randint(-6, 6)), p(20, 3)]


def out_of(corner, one):
    """A direction out of a patch at a corner, likely along which the corner alone is farthest."""
    (x, y), middle = numbers(corner), [sum(row) / len(one) for row in zip(*map(numbers, one.corners))]
    return lowest(x - middle[0], y - middle[1]) if (x, y) != tuple(middle) else (1, 0)


class Settles(unittest.TestCase):
    def check(self, case, ways, place):
        told = settles(case=case, directions=ways, place=place)
        self.assertEqual(told is None, is_settled(case, ways, place))
        if told is not None:
            self.assertIs(type(told), Unsettled)
            self.assertTrue(fits(case, told.one) and fits(case, told.other))
            self.assertTrue(holds(told.one.corners, place))
            self.assertFalse(holds(told.other.corners, place))
            self.assertTrue(all(reach(told.one, way) == reach(told.other, way) for way in ways))
        self.assertIsNone(settling_fault(case=case, directions=ways, place=place, told=told))
        return told is None

    def test_example(self):
        self.assertTrue(self.check(BOX, [(-1, -1)], p(0, 0)))
        self.assertFalse(self.check(BOX, [], p(0, 0)))
        self.assertFalse(self.check(BOX, [(-1, 0), (0, -1), (1, 1), (1, -1), (-1, 1)], p(0, 0)))
        self.assertTrue(self.check(BOX, [(1, 1), [-5, -1]], [r(0), r(0)]))

    def test_by_chance(self):
        picks, seen = source(912), set()
        for case in CASES + [LINE]:
            for place in some_of(case, picks):
                ways = picks.sample(DIRECTIONS, picks.randint(0, 4)) + [out_of(place, case.whole)] * picks.randint(0, 1)
                seen.add((self.check(case, ways, place), holds(case.whole.corners, place), len(ways) == 0))
        self.assertLessEqual({(True, True, False), (False, True, False), (False, True, True), (True, False, True)}, seen)

    def test_no_directions(self):
        picks = source(913)
        for case in CASES[::2] + [LINE]:
            for place in some_of(case, picks):
                for ways in ((), []):
                    told = settles(case, ways, place) is None
                    self.assertEqual(told, surely(case, place) or not holds(case.whole.corners, place))

    def test_one_thing_more_settles_a_place_of_a_polygon(self):
        picks = source(914)
        for case in CASES:
            if len(case.whole) > 2:
                for place in some_of(case, picks):
                    ways = picks.sample(DIRECTIONS, 3) + [out_of(place, case.whole)]
                    alone = place in case.whole.corners and any(
                        amount(way, place) == reach(case.whole, way) and alone_at(case.whole, way) == 1 for way in ways)
                    due = surely(case, place) or not holds(case.whole.corners, place) or alone
                    self.assertEqual(settles(case, ways, place) is None, due)

    def test_twelve_directions(self):
        self.assertTrue(self.check(BOX, DIRECTIONS, p(0, 0)))
        self.assertFalse(self.check(BOX, DIRECTIONS, p(1, 0)))
        self.assertFalse(self.check(BOX, [(1, 0)] * 12, p(0, 0)))

    def test_at_the_very_rim(self):
        for place, inside in ((p(0, 1), True), (p(-NEAR, 1), False), (p(NEAR, 1), True), (p(4, 0), True), (p(4, -NEAR), False)):
            self.assertEqual(settles(BOX, (), place) is None, not inside)
        self.assertTrue(self.check(BOX, [(1, -1)], p(4, 0)))
        self.assertFalse(self.check(BOX, [(1, -1)], p(4 - NEAR, 0)))

    def test_on_a_stretch_two_may_be_wanted(self):
        middle = p("3/2", "3/2")
        self.assertFalse(self.check(LINE, [(1, 0)], middle))
        self.assertFalse(self.check(LINE, [(-1, 0), (0, 1)], middle))
        self.assertTrue(self.check(LINE, [(1, 0), (-1, 0)], middle))
        # All stones come from the left of this place, so it is enough how far they reach.
        self.assertTrue(self.check(LINE, [(1, 0)], p(3, 0)))
        self.assertFalse(self.check(LINE, [(-1, 0)], p(3, 0)))

    def test_only_one_stone(self):
        for ways in ([], DIRECTIONS[:3]):
            self.assertTrue(self.check(ONE_PLACE, ways, p(1, 1)))
            self.assertTrue(self.check(ONE_PLACE, ways, p(1, 2)))
            self.assertTrue(self.check(THREE_PLACES, ways, p(1, 1)))

    def test_more_directions_never_unsettle(self):
        picks = source(915)
        for case in CASES[::3]:
            for place in some_of(case, picks)[:4]:
                ways = picks.sample(DIRECTIONS, 2) + [out_of(place, case.whole)]
                settled = [settles(case, ways[:k], place) is None for k in range(4)]
                self.assertEqual(settled, sorted(settled))

    def test_each_error_ahead_of_each_later_one(self):
        rows = []
        for call in (settles, lambda *given: settling_fault(*given, None), lambda case, ways, place: least_settlers(case, ways, place)):
            for case in (BOX, NO_STONES[0]):
                for place in (p(0, 0), None):
                    rows += [(lambda call=call, case=case, ways=ways, place=place: call(case, ways, place), BadDirections, 0)
                             for ways in NO_ROWS + [[(1, 0)] * 13]]
                    rows += [(lambda call=call, case=case, way=way, place=place: call(case, [(1, 0), (0, 1), way, way], place), BadDirections, 2)
                             for way in NO_WAYS]
                rows += [(lambda call=call, case=case, place=place: call(case, [(1, 0)], place), BadPlace) for place in NO_PLACES]
            rows += [(lambda call=call, case=case: call(case, [(1, 0)], p(50, 50)), NoStones) for case in NO_STONES]
        rows += [(lambda: least_settlers(BOX, [(1, 0)] * 6, p(0, 0)), BadDirections, 0)]
        check_errors(self, rows)


class SettlingFault(unittest.TestCase):
    WAYS = [(1, 0), (0, 1)]

    def fault(self, told, case=BOX, ways=WAYS, place=p(1, 0)):
        return settling_fault(case, ways, place, told)

    def test_right_ones(self):
        right = settles(BOX, self.WAYS, p(1, 0))
        self.assertIsNone(self.fault(right))
        self.assertIsNone(self.fault(Unsettled(BOX.whole, patch((0, 0), (4, 2), (0, 2))), place=[r(1), r(0)]))
        self.assertIsNone(self.fault(None, place=p(9, 9)))
        self.assertIsNone(self.fault(None, ways=[[-1, -1]], place=p(0, 0)))

    def test_none(self):
        self.assertEqual(self.fault(None), "none")
        self.assertEqual(self.fault(None, NOTHING, []), "none")

    def test_kind(self):
        for told in JUNK[1:] + [(BOX.whole, BOX.whole), Several(BOX.whole, BOX.whole), Unsettled]:
            for place in (p(1, 0), p(9, 9)):
                self.assertEqual(self.fault(told, place=place), "kind")

    def test_fits(self):
        right = settles(BOX, self.WAYS, p(1, 0))
        for wrong in JUNK + [BOX.whole.corners, [BOX.whole], SQUARE, HEXAGON, patch((1, 0))]:
            for told in (Unsettled(wrong, right.other), Unsettled(right.one, wrong), Unsettled(wrong, wrong)):
                self.assertEqual(self.fault(told), "fits")

    def test_place(self):
        right = settles(BOX, self.WAYS, p(1, 0))
        for told in (Unsettled(right.other, right.one), Unsettled(right.one, right.one), Unsettled(right.other, right.other),
                     Unsettled(BOX.whole, BOX.whole)):
            self.assertEqual(self.fault(told), "place")
            self.assertEqual(self.fault(told, ways=[(1, 1), (-1, 3)]), "place")

    def test_reach(self):
        self.assertEqual(self.fault(Unsettled(BOX.whole, patch((0, 2), (4, 0))), ways=[(1, 0), (1, 1)]), "reach")
        self.assertEqual(self.fault(Unsettled(BOX.whole, patch((0, 2), (4, 0))), ways=[(1, 0), (1, 2)]), "reach")
        self.assertIsNone(self.fault(Unsettled(BOX.whole, patch((0, 2), (4, 0))), ways=[(1, 0), (0, -1)]))
        self.assertEqual(self.fault(Unsettled(BOX.whole, patch((0, 2), (4, 0))), ways=[(-1, -1)], place=p(0, 0)), "reach")

    def test_it_is_the_result(self):
        check_result(self, Unsettled, "one", "other")
        self.assertFalse(Unsettled(1, 2) == Several(1, 2))


def all_least(case, pool, place):
    """All least lots by going through every lot."""
    lots = [lot for many in range(len(pool) + 1) for lot in combinations(range(len(pool)), many)]
    right = [lot for lot in lots if is_settled(case, [pool[k] for k in lot], place)]
    return tuple(lot for lot in right if not any(set(one) < set(lot) for one in right))


class LeastSettlers(unittest.TestCase):
    def test_example(self):
        self.assertEqual(least_settlers(case=BOX, pool=[(-1, 0), (-1, -1), (1, 1), (-2, -1)], place=p(0, 0)), ((1,), (3,)))
        self.assertEqual(least_settlers(BOX, [], p(0, 0)), ())
        self.assertEqual(least_settlers(BOX, (), p(2, 1)), ((),))
        self.assertEqual(least_settlers(BOX, [(1, 0)] * 5, p(0, 0)), ())
        self.assertEqual(least_settlers(BOX, [(1, 0)] * 5, p(0, 5)), ((),))

    def test_directions_twice(self):
        self.assertEqual(least_settlers(BOX, [(-1, -1), (1, 0), [-1, -1], (-1, -1)], [r(0), r(0)]), ((0,), (2,), (3,)))

    def test_a_stretch_may_want_two(self):
        wanted = Case(TABLE, [within(1, 1, 3), within(-1, -1, -3), meets((0, 3), (3, 0))])
        found = set()
        for case in (wanted, LINE, ON_STRETCH, Case(TABLE, [within(0, 1, 0), within(0, -1, 0), meets((0, 0), (4, 0))])):
            for place in case.whole.corners + ps((0, 3), (3, 0), ("3/2", "3/2"), (0, 0), (4, 0), (2, 0)):
                pool = [(1, 0), (0, 1), (-1, 0), (1, 1), (1, -1)]
                told = least_settlers(case, pool, place)
                self.assertEqual(told, all_least(case, pool, place))
                found |= {len(lot) for lot in told}
        self.assertEqual(found, {0, 1, 2})

    def test_against_going_through_every_lot(self):
        picks, found = source(916), set()
        for case in CASES[::2] + [LINE]:
            for place in some_of(case, picks)[:5]:
                pool = (picks.sample(DIRECTIONS, 3) + [out_of(place, case.whole)] * 2)[:picks.randint(0, 5)]
                picks.shuffle(pool)
                told = least_settlers(case, pool, place)
                self.assertEqual(told, all_least(case, pool, place))
                self.assertTrue(all(type(lot) is tuple for lot in told))
                if len(case.whole) > 2:
                    self.assertTrue(all(len(lot) < 2 for lot in told))
                found.add(told[:1])
        self.assertLessEqual({(), ((),)}, found)


class ManyFigures(unittest.TestCase):
    def test_twelve_facts(self):
        for figures, every in ((60, 1), (300, 0), (300, 2)):
            case, picks = twelve_facts(figures, every), source(917)
            pool = [lowest(10 ** 280 + picks.randint(1, 99), k) for k in range(4)]
            for place in (case.whole.corners[0], case.whole.middle, stones_in(case, picks, 1)[1].corners[0], p(8, 8)):
                told = settles(case, pool, place)
                self.assertIsNone(settling_fault(case, pool, place, told))
                self.assertEqual(told is None, bool(least_settlers(case, pool, place)))
            corner = case.whole.corners[0]
            self.assertIn(len(least_settlers(case, [(-1, 0), (0, 1), out_of(corner, case.whole)], corner)), (0, 1, 2))


if __name__ == "__main__":
    unittest.main()
