"""[8.4] to [8.7] Boxes that hold the stones that fit."""

import unittest
from fractions import Fraction
from itertools import combinations

from feltstone.boxes import (
    HoldsAll, HoldsNone, HoldsSome, box_fault, box_verdict, check_box, every_box_places, held_at, some_box_places,
)
from feltstone.cases import Case
from feltstone.errors import BadBox, BadPlace, NoStones
from feltstone.patches import Patch, hull_of
from tests.made_cases import (
    BOX, FIVE, NOTHING, ONE_PLACE, ON_STRETCH, SIDES, TABLE, THREE_PLACES, cases_with_stones, fits, lot_of, meet, stones_in,
    twelve_facts,
)
from tests.makers import JUNK, POINT, SQUARE, grid, holds, meets, numbers, p, patch, r, source, table, within
from tests.results import check_errors, check_result
from tests.test_reaches import NEAR
from tests.test_sure import NO_PLACES, NO_STONES

NO_LENGTHS = JUNK + [1, 0, 4, [4, 1], (2, 4), (1, 0), (True, 1), (4, True), (-1, 1), (-1, 2), (4.0, 1), "4", p(1, 1)]
LENGTHS = [(0, 0), (3, 0), (0, 2), (1, 1), ("5/2", "3/2"), (4, 2), (7, 1), (2, 9), (18, 18)]
CASES = cases_with_stones(40, 811) + [ONE_PLACE, ON_STRETCH, THREE_PLACES, NOTHING, FIVE, BOX]


def box(low, width, height):
    x, y = numbers(low)
    wide, high = Fraction(width), Fraction(height)
    return hull_of([p(a, b) for a in (x, x + wide) for b in (y, y + high)])


def ends(one):
    xs, ys = [numbers(corner)[0] for corner in one.corners], [numbers(corner)[1] for corner in one.corners]
    return min(xs), max(xs), min(ys), max(ys)


def meets_all(patches, width, height):
    """Whether some box has a place of each patch: whether the lots of low corners, all sums of corners, have a common place."""
    lots = []
    for one in patches:
        lots.append(hull_of([p(x - dx, y - dy) for x, y in map(numbers, one.corners) for dx in (0, Fraction(width)) for dy in (0, Fraction(height))]))
    return all_meet(lots)


def all_meet(lots):
    """Whether convex lots have a place in common, told by corners and crossings of sides."""
    places = [numbers(corner) for one in lots for corner in one.corners]
    sides = [side for one in lots for side in sides_of(one)]
    for k, (a, b) in enumerate(sides):
        for c, d in sides[:k]:
            (ax, ay), (bx, by), (cx, cy), (dx, dy) = a, b, c, d
            turn = (bx - ax) * (dy - cy) - (by - ay) * (dx - cx)
            if turn:
                share = Fraction((cx - ax) * (dy - cy) - (cy - ay) * (dx - cx)) / turn
                places.append((ax + share * (bx - ax), ay + share * (by - ay)))
    return any(all(holds(one.corners, p(x, y)) for one in lots) for x, y in places)


def sides_of(one):
    corners = [numbers(corner) for corner in one.corners]
    return list(zip(corners, corners[1:] + corners[:1])) if len(corners) > 2 else list(zip(corners, corners[1:]))


def first_lot(case, width, height):
    """The first lot by going through all lots of two and three."""
    numbers_told = [k for k, _ in case.patches]
    for many in (2, 3):
        for lot in combinations(numbers_told, many):
            if not meets_all([case.patch_at(k) for k in lot], width, height):
                return lot
    return None


class CheckBox(unittest.TestCase):
    def test_right_ones(self):
        for width, height in LENGTHS:
            self.assertIsNone(check_box(width=r(width), height=r(height)))

    def test_wrong_ones(self):
        rows = []
        for wrong in NO_LENGTHS:
            rows += [(lambda wrong=wrong, height=height: check_box(wrong, height), BadBox, "width") for height in (r(1), None, r(-1))]
            rows.append((lambda wrong=wrong: check_box(r(0), wrong), BadBox, "height"))
        check_errors(self, rows)


class HeldAt(unittest.TestCase):
    def test_at_the_edges_between_the_verdicts(self):
        # All stones of this case reach from 0 to 4 and from 0 to 2.
        for low, width, height, due in [
            ((0, 0), 4, 2, "always"), ((-1, -1), 6, 4, "always"), ((0, 0), 4 - NEAR, 2, "never"), ((NEAR, 0), 4, 2, "never"),
            ((0, 0), 4, 2 - NEAR, "never"), ((0, NEAR), 4, 2, "never"), ((-NEAR, 0), 4, 2, "never"), ((-NEAR, 0), 4 + NEAR, 2, "always"),
        ]:
            self.assertEqual(held_at(case=BOX, low=p(*low), width=r(width), height=r(height)), due)
        some = Case(TABLE, [meets((0, 0), (4, 0)), meets((0, 2), (4, 2))])
        for low, width, height, due in [
            ((4, 0), 0, 2, "maybe"), ((4, 0), 5, 2, "maybe"), ((4 + NEAR, 0), 5, 2, "never"), ((4, 0), 0, 2 - NEAR, "never"),
            ((4, NEAR), 0, 9, "never"), ((-1, 0), 1, 2, "maybe"), ((-1, 0), 1 - NEAR, 2, "never"), ((-9, -9), 18, 18, "always"),
            ((-9, -9), 18 - NEAR, 18, "maybe"), ((-9, -9), 18, 18 - NEAR, "maybe"),
        ]:
            self.assertEqual(held_at(some, p(*low), r(width), r(height)), due)

    def test_wholly(self):
        picks, seen = source(812), set()
        for case in CASES:
            for width, height in LENGTHS:
                low = p(picks.randint(-10, 5), picks.randint(-10, 5))
                told = held_at(case, list(low), r(width), r(height))
                held = box(low, width, height)
                if all(holds(held.corners, corner) for corner in case.whole.corners):
                    due = "always"
                else:
                    due = "maybe" if all(meet(one.corners, held.corners) for one in lot_of(case)) else "never"
                self.assertEqual(told, due)
                for stone in stones_in(case, picks, 2):
                    lies = all(holds(held.corners, corner) for corner in stone.corners)
                    self.assertIn(told, ("always", "maybe") if lies else ("never", "maybe"))
                seen.add(told)
        self.assertEqual(seen, {"always", "maybe", "never"})

    def test_each_error_ahead_of_each_later_one(self):
        rows = []
        for case in (BOX, NO_STONES[0]):
            for low in NO_PLACES:
                rows += [(lambda case=case, low=low, length=length: held_at(case, low, length, length), BadPlace) for length in (r(1), None)]
            for wrong in NO_LENGTHS:
                rows.append((lambda case=case, wrong=wrong: held_at(case, p(0, 0), wrong, wrong), BadBox, "width"))
                rows.append((lambda case=case, wrong=wrong: held_at(case, p(0, 0), r(0), wrong), BadBox, "height"))
        rows += [(lambda case=case: held_at(case, p(0, 0), r(1), r(1)), NoStones) for case in NO_STONES]
        check_errors(self, rows)


class Places(unittest.TestCase):
    def test_example(self):
        self.assertEqual(every_box_places(case=FIVE, width=r(4), height=r(2)), patch((0, 0)))
        self.assertEqual(some_box_places(case=FIVE, width=r(4), height=r(2)), patch((0, 0)))
        self.assertIsNone(some_box_places(FIVE, r(3), r(2)))
        self.assertIsNone(some_box_places(FIVE, r(4), r(1)))

    def test_some(self):
        places = grid(-5, 5, 1)
        for case in CASES[::2]:
            for width, height in LENGTHS[::2]:
                told = some_box_places(case, r(width), r(height))
                due = [place for place in places if held_at(case, place, r(width), r(height)) != "never"]
                if told is None:
                    self.assertEqual(due, [])
                    self.assertFalse(meets_all(lot_of(case), width, height))
                    continue
                self.assertIs(type(told), Patch)
                self.assertEqual([place for place in places if holds(told.corners, place)], due)
                for corner in told.corners:
                    self.assertNotEqual(held_at(case, corner, r(width), r(height)), "never")

    def test_every(self):
        for case in CASES:
            left, right, low, high = ends(case.whole)
            for width, height in LENGTHS + [(right - left, high - low), (right - left + 1, high - low), (right - left, high - low + 2)]:
                width, height = Fraction(width), Fraction(height)
                told = every_box_places(case, r(width), r(height))
                if right - width > left or high - height > low:
                    self.assertIsNone(told)
                else:
                    self.assertEqual(told, hull_of([p(x, y) for x in (right - width, left) for y in (high - height, low)]))
                    for corner in told.corners:
                        self.assertEqual(held_at(case, corner, r(width), r(height)), "always")

    def test_just_too_small(self):
        for case in (BOX, ONE_PLACE, ON_STRETCH):
            left, right, low, high = ends(case.whole)
            for width, height in ((right - left - NEAR, high - low), (right - left, high - low - NEAR)):
                if width >= 0 and height >= 0:
                    self.assertIsNone(every_box_places(case, r(width), r(height)))

    def test_boxes_of_no_width_and_no_height(self):
        self.assertEqual(some_box_places(NOTHING, r(0), r(0)), TABLE.ground)
        self.assertEqual(some_box_places(ONE_PLACE, r(0), r(0)), patch((1, 1)))
        self.assertEqual(every_box_places(ONE_PLACE, r(0), r(2)), patch((1, -1), (1, 1)))
        self.assertEqual(some_box_places(Case(TABLE, [meets((0, 0), (4, 0)), meets((0, 2), (4, 2))]), r(0), r(2)), patch((0, 0), (4, 0)))
        self.assertIsNone(some_box_places(Case(TABLE, [meets((0, 0), (4, 0)), meets((0, 2), (4, 2))]), r(9), r(2 - NEAR)))

    def test_led_along(self):
        for case in CASES[::4]:
            for width, height in LENGTHS[2:6]:
                told, every = some_box_places(case, r(width), r(height)), every_box_places(case, r(width), r(height))
                for one, call in ((told, some_box_places), (every, every_box_places)):
                    shifted = call(case.shifted(p(2, "-1/3")), r(width), r(height))
                    self.assertEqual(shifted, one and hull_of([p(x + 2, y - Fraction(1, 3)) for x, y in map(numbers, one.corners)]))
                    grown = call(case.grown(r(3)), r(3 * Fraction(width)), r(3 * Fraction(height)))
                    self.assertEqual(grown, one and hull_of([p(3 * x, 3 * y) for x, y in map(numbers, one.corners)]))
                    # The low corner of the turned box is that of the other end of its low side.
                    turned = call(case.turned(), r(height), r(width))
                    self.assertEqual(turned, one and hull_of([p(-y - Fraction(height), x) for x, y in map(numbers, one.corners)]))
                    mirrored = call(case.mirrored(), r(width), r(height))
                    self.assertEqual(mirrored, one and hull_of([p(-x - Fraction(width), y) for x, y in map(numbers, one.corners)]))

    def test_errors(self):
        rows = []
        for call in (some_box_places, every_box_places, box_verdict, lambda case, width, height: box_fault(case, width, height, None)):
            for case in (BOX, NO_STONES[0]):
                for wrong in NO_LENGTHS:
                    rows.append((lambda call=call, case=case, wrong=wrong: call(case, wrong, wrong), BadBox, "width"))
                    rows.append((lambda call=call, case=case, wrong=wrong: call(case, r(3), wrong), BadBox, "height"))
            rows += [(lambda call=call, case=case: call(case, r(3), r(0)), NoStones) for case in NO_STONES]
        check_errors(self, rows)


# No box of this width has a place of the three patches, though one has of each two of them.
CROSSED = Case(TABLE, [meets((0, 0), (4, 0)), meets((0, 1), (1, 4)), meets((3, 4), (4, 1))])


class Verdicts(unittest.TestCase):
    def test_example(self):
        self.assertEqual(box_verdict(case=FIVE, width=r(4), height=r(2)), HoldsAll(p(0, 0)))
        self.assertEqual(box_verdict(FIVE, r(3), r(9)), HoldsNone((0, 2)))
        self.assertEqual(box_verdict(FIVE, r(9), r(1)), HoldsNone((1, 3)))
        few = Case(table(0, 0, 9, 9), [FIVE.facts[0], FIVE.facts[2], FIVE.facts[4]])
        self.assertIs(type(box_verdict(few, r(4), r(0))), HoldsSome)

    def test_wholly(self):
        seen = set()
        for case in CASES + [SIDES, CROSSED]:
            for width, height in LENGTHS:
                told = box_verdict(case, r(width), r(height))
                seen.add((type(told), len(getattr(told, "numbers", ()))))
                self.assertIsNone(box_fault(case=case, width=r(width), height=r(height), told=told))
                left, right, low, high = ends(case.whole)
                if right - left <= Fraction(width) and high - low <= Fraction(height):
                    self.assertIs(type(told), HoldsAll)
                    self.assertEqual(held_at(case, told.low, r(width), r(height)), "always")
                elif type(told) is HoldsSome:
                    held = box(told.low, width, height)
                    self.assertTrue(fits(case, told.stone))
                    self.assertTrue(all(holds(held.corners, corner) for corner in told.stone.corners))
                    self.assertEqual(held_at(case, told.low, r(width), r(height)), "maybe")
                else:
                    self.assertIs(type(told), HoldsNone)
                    self.assertIs(type(told.numbers), tuple)
                    self.assertEqual(told.numbers, first_lot(case, width, height))
        self.assertEqual(seen, {(HoldsAll, 0), (HoldsSome, 0), (HoldsNone, 2), (HoldsNone, 3)})

    def test_just_at_and_below(self):
        self.assertIs(type(box_verdict(BOX, r(4), r(2))), HoldsAll)
        self.assertEqual(box_verdict(BOX, r(4 - NEAR), r(2)), HoldsNone((0, 2)))
        self.assertEqual(box_verdict(BOX, r(4), r(2 - NEAR)), HoldsNone((1, 3)))
        self.assertEqual(box_verdict(BOX, r(4 - NEAR), r(2 - NEAR)), HoldsNone((0, 2)))
        apart = Case(TABLE, [meets((0, 0), (4, 0)), meets((1, 3), (5, 3))])
        self.assertIs(type(box_verdict(apart, r(0), r(3))), HoldsSome)
        self.assertEqual(box_verdict(apart, r(0), r(3 - NEAR)), HoldsNone((0, 1)))

    def test_three(self):
        self.assertEqual(box_verdict(CROSSED, r(1), r(1)), HoldsNone((1, 2)))
        self.assertEqual(box_verdict(CROSSED, r(2), r(1)), HoldsNone((0, 1, 2)))
        self.assertIs(type(box_verdict(CROSSED, r(3), r(3))), HoldsSome)
        # The same behind a fact that has no patch, and behind one that is no part of it.
        later = Case(TABLE, [within(1, 1, 17), meets((-9, -9), (9, -9), (9, 9), (-9, 9)), *CROSSED.facts])
        self.assertEqual(box_verdict(later, r(2), r(1)), HoldsNone((2, 3, 4)))

    def test_led_along(self):
        for case in CASES[::4] + [CROSSED]:
            for width, height in LENGTHS[2:6]:
                told = box_verdict(case, r(width), r(height))
                for led, wide, high in ((case.shifted(p(3, 1)), width, height), (case.mirrored(), width, height), (case.turned(), height, width),
                                        (case.grown(r(2)), 2 * Fraction(width), 2 * Fraction(height))):
                    later = box_verdict(led, r(wide), r(high))
                    self.assertIs(type(later), type(told))
                    self.assertEqual(getattr(later, "numbers", None), getattr(told, "numbers", None))


class BoxFault(unittest.TestCase):
    SOME = Case(TABLE, [meets((0, 0), (4, 0)), meets((0, 2), (4, 2))])

    def fault(self, case, width, height, told):
        return box_fault(case, r(width), r(height), told)

    def test_verdict(self):
        rights = [(BOX, 4, 2, HoldsAll(p(0, 0))), (self.SOME, 0, 2, HoldsSome(p(1, 0), patch((1, 0), (1, 2)))), (BOX, 3, 2, HoldsNone((0, 2)))]
        for case, width, height, right in rights:
            self.assertIsNone(self.fault(case, width, height, right))
            for told in (HoldsAll(p(0, 0)), HoldsSome(p(1, 0), case.whole), HoldsNone((0, 2)), HoldsAll(None), HoldsSome(None, None), HoldsNone(None)):
                if type(told) is not type(right):
                    self.assertEqual(self.fault(case, width, height, told), "verdict")

    def test_low_of_all(self):
        for low in NO_PLACES + [p(NEAR, 0), p(-NEAR, 0), p(0, 1)]:
            self.assertEqual(self.fault(BOX, 4, 2, HoldsAll(low)), "low")
        for low in (p(0, 0), [r(0), r(0)], p(-1, 0), p(-1, -3)):
            self.assertIsNone(self.fault(BOX, 5, 5, HoldsAll(low)))
        self.assertEqual(self.fault(BOX, 5, 5, HoldsAll(p(-1 - NEAR, 0))), "low")

    def test_low_and_stone_of_some(self):
        right = patch((1, 0), (1, 2))
        for low in NO_PLACES:
            for stone in (right, None):
                self.assertEqual(self.fault(self.SOME, 1, 2, HoldsSome(low, stone)), "low")
        for low in (p(0, 0), [r(1), r(0)], p("1/2", 0)):
            self.assertIsNone(self.fault(self.SOME, 1, 2, HoldsSome(low, right)))
        for stone in JUNK + [right.corners, [right], patch((1, 0), (1, 1)), patch((2, 0), (2, 2)), patch((0, 0), (2, 2)), POINT, SQUARE]:
            self.assertEqual(self.fault(self.SOME, 1, 2, HoldsSome(p("1/2", 0), stone)), "stone")
        # A place where the box holds no stone is a place; but no stone lies in it.
        self.assertEqual(self.fault(self.SOME, 1, 2, HoldsSome(p(5, 5), right)), "stone")
        self.assertEqual(self.fault(self.SOME, 1, 2, HoldsSome(p(0, NEAR), right)), "stone")

    def test_numbers(self):
        wrong = JUNK + [(), (0,), (0, 1), (2, 0), (0, 2, 3), (-1, 0), (False, 2), (0, 2.0), {0: 1, 2: 3}, (1, 3), (0, 2, 2)]
        for told in wrong:
            self.assertEqual(self.fault(BOX, 3, 2, HoldsNone(told)), "numbers")
        self.assertIsNone(self.fault(BOX, 3, 2, HoldsNone([0, 2])))
        # Each of these lots shows it, but only the first is right.
        self.assertIsNone(self.fault(BOX, 3, 1, HoldsNone((0, 2))))
        self.assertEqual(self.fault(BOX, 3, 1, HoldsNone((1, 3))), "numbers")
        self.assertEqual(self.fault(CROSSED, 2, 1, HoldsNone((0, True, 2))), "numbers")
        self.assertIsNone(self.fault(CROSSED, 2, 1, HoldsNone((0, 1, 2))))

    def test_they_are_results(self):
        check_result(self, HoldsAll, "low")
        check_result(self, HoldsSome, "low", "stone")
        check_result(self, HoldsNone, "numbers")
        self.assertFalse(HoldsAll(1) == HoldsNone(1))


class ManyFigures(unittest.TestCase):
    def test_twelve_facts(self):
        for figures, every in ((60, 1), (300, 0), (300, 3)):
            case = twelve_facts(figures, every)
            for width, height in ((18, 18), (11, 3), (r(Fraction(10 ** 290, 10 ** 291 - 7)), 2), (0, 0)):
                lengths = width if isinstance(width, tuple) else r(width), r(height)
                told = box_verdict(case, *lengths)
                self.assertIsNone(box_fault(case, *lengths, told))
                self.assertIs(some_box_places(case, *lengths) is None, type(told) is HoldsNone)


if __name__ == "__main__":
    unittest.main()
