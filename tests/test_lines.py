"""[6.10] Stones that stand in line along a direction."""

import unittest
from itertools import permutations

from feltstone.cases import Case
from feltstone.errors import BadDirection, BadLine, NoStones
from feltstone.lines import Blocked, LinedUp, line_fault, line_up, line_verdict, orders_along
from feltstone.meeting import NeverMeet
from feltstone.patches import Patch
from tests.made_cases import (
    AT_CORNER, BESIDE, BOX, FAR, FIVE, HIGH, NOTHING, ONE_PLACE, SIDES, SMALL, TABLE, THREE_PLACES, WIDE, cases_with_stones,
    fits, greatest_least, least_greatest, lot_of, stones_in, twelve_facts,
)
from tests.makers import DIRECTIONS, HEXAGON, JUNK, SQUARE, meets, p, patch, ruler, source, table, within
from tests.test_critical import NO_WAYS
from tests.test_meeting import low, reach
from tests.test_sure import NO_STONES


def spanning(one, other):
    """A case whose stones all reach at least from one amount to the other along (1, 0)."""
    return Case(TABLE, [meets((one, 0), (one, 5)), meets((other, 0), (other, 5))])


# Each two neighbours can stand in line, and yet the first and the last cannot.
FREE = Case(TABLE, [])
GAPPED = [spanning(0, 3), FREE, spanning(2, 5)]
NO_LINES = JUNK + [(), [], (BOX,), [BOX], (BOX,) * 5, [BOX] * 6, (BOX, None), (BOX, BOX.facts), [BOX, FIVE, TABLE], (BOX, SQUARE),
                   iter([BOX, FIVE]), {1: BOX, 2: FIVE}, BOX, "ab", (BOX, FIVE, BOX, True)]
CALLS = [line_verdict, line_up, lambda cases, way: line_fault(cases, way, None), orders_along]


def lines(many=60, seed=461):
    """Rows of two to four cases: near to each other, far apart, doubled."""
    picks = source(seed)
    pool = cases_with_stones(20, seed) + [WIDE, HIGH, SMALL, FAR, BESIDE, AT_CORNER, ONE_PLACE, THREE_PLACES]
    rows = [GAPPED, (spanning(0, 3), spanning(3, 5)), [spanning(3, 5), spanning(0, 3)], (ONE_PLACE, ONE_PLACE), (FREE,) * 4]
    for _ in range(many):
        row = [picks.choice(pool).shifted(p(picks.choice([0, 0, 6, -7]), 0)) for _ in range(picks.randint(2, 4))]
        rows.append(row if picks.randint(0, 1) else tuple(row))
    return rows


def ends_of(cases, way):
    return [(greatest_least(lot_of(case), way), least_greatest(lot_of(case), way)) for case in cases]


def blocked(cases, way):
    """The first two that do not stand in line, or None."""
    ends = ends_of(cases, way)
    found = [(i, j) for i in range(len(ends)) for j in range(i + 1, len(ends)) if ends[i][0] > ends[j][1]]
    return min(found, default=None)


def in_line(stones, way):
    return all(reach(one, way) <= low(two, way) for one, two in zip(stones, stones[1:]))


def is_right(cases, way, told):
    due = blocked(cases, way)
    if type(told) is Blocked:
        return (told.first, told.second) == due
    if type(told) is not LinedUp or due is not None or type(told.stones) is not tuple or len(told.stones) != len(cases):
        return False
    return all(type(stone) is Patch and fits(case, stone) for case, stone in zip(cases, told.stones)) and in_line(told.stones, way)


class LineUp(unittest.TestCase):
    def test_wholly(self):
        seen = set()
        for cases in lines():
            for way in DIRECTIONS:
                told = line_up(cases=cases, direction=way)
                self.assertTrue(is_right(cases, way, told))
                self.assertIsNone(line_fault(cases=cases, direction=way, told=told))
                self.assertIsNone(line_fault(cases, list(way), told))
                seen.add((type(told), len(cases)))
        self.assertEqual(len(seen), 6)

    def test_each_two_decide_and_not_neighbours_alone(self):
        self.assertEqual(line_up(GAPPED, (1, 0)), Blocked(0, 2))
        self.assertEqual(line_verdict(GAPPED, (1, 0)), "never")
        self.assertIs(type(line_up(GAPPED[:2], (1, 0))), LinedUp)
        self.assertIs(type(line_up(GAPPED[1:], (1, 0))), LinedUp)

    def test_the_first_two_that_block(self):
        one, two, three, four = spanning(0, 3), spanning(2, 5), spanning(1, 4), spanning(4, 6)
        self.assertEqual(line_up((one, four, two, three), (1, 0)), Blocked(0, 2))
        self.assertEqual(line_up((one, four, three, FREE), (1, 0)), Blocked(0, 2))
        self.assertEqual(line_up((one, FREE, four, two), (1, 0)), Blocked(0, 3))
        self.assertEqual(line_up((FREE, four, one, two), [1, 0]), Blocked(1, 2))
        self.assertEqual(line_up((FREE, FREE, four, two), (1, 0)), Blocked(2, 3))

    def test_touching_in_line(self):
        told = line_up((spanning(0, 3), spanning(3, 5)), (1, 0))
        self.assertEqual((reach(told.stones[0], (1, 0)), low(told.stones[1], (1, 0))), (3, 3))
        self.assertEqual(line_verdict((spanning(0, 3), spanning(3, 5)), (1, 0)), "maybe")
        self.assertEqual(line_up((spanning(0, "3001/1000"), spanning(3, 5)), (1, 0)), Blocked(0, 1))

    def test_the_same_case_twice(self):
        told = line_up((FREE, FREE), (1, 1))
        self.assertTrue(is_right((FREE, FREE), (1, 1), told))
        self.assertEqual(line_up((BOX, BOX), (1, 0)), Blocked(0, 1))
        self.assertEqual(line_up([ONE_PLACE] * 4, (1, 0)), LinedUp((patch((1, 1)),) * 4))
        self.assertEqual(line_verdict([ONE_PLACE] * 4, (1, 0)), "always")

    def test_led_along(self):
        for cases in lines(12, 462):
            for x, y in DIRECTIONS[:5]:
                verdict, orders = line_verdict(cases, (x, y)), orders_along(cases, (x, y))
                for other, way in (([case.turned() for case in cases], (-y, x)), ([case.mirrored() for case in cases], (-x, y)),
                                   ([case.shifted(p(2, "1/3")) for case in cases], (x, y))):
                    self.assertEqual(line_verdict(other, way), verdict)
                    self.assertEqual(orders_along(other, way), orders)
                    self.assertTrue(is_right(other, way, line_up(other, way)))
                self.assertEqual(line_verdict(cases[::-1], (-x, -y)), verdict)


class Verdict(unittest.TestCase):
    def test_wholly(self):
        picks, seen = source(463), set()
        for cases in lines(60, 464):
            for way in DIRECTIONS[:8]:
                due = "never" if blocked(cases, way) else "always" if in_line([case.whole for case in cases], way) else "maybe"
                self.assertEqual(line_verdict(cases=cases, direction=way), due)
                self.assertEqual(line_verdict(list(cases), list(way)), due)
                seen.add(due)
                rows = zip(*[stones_in(case, picks, 2) for case in cases])
                self.assertTrue(all(due == "maybe" or in_line(row, way) is (due == "always") for row in rows))
        self.assertEqual(seen, {"always", "maybe", "never"})

    def test_some(self):
        self.assertEqual(line_verdict((SMALL, FAR), (1, 0)), "always")
        self.assertEqual(line_verdict((SMALL, Case(table(0, 0, 4, 4), []), FAR), (1, 0)), "maybe")
        self.assertEqual(line_verdict((FAR, SMALL), (1, 0)), "never")
        self.assertEqual(line_verdict((BOX, BESIDE), (1, 0)), "always")
        self.assertEqual(line_verdict((BOX, AT_CORNER), (1, 1)), "always")
        self.assertEqual(line_verdict((NOTHING, NOTHING), (1, 0)), "maybe")


class LineFault(unittest.TestCase):
    CASES = (spanning(0, 3), FREE, spanning(3, 5))
    STONES = (patch((0, 0), (3, 1)), patch((3, -7), (3, 7)), patch((3, 0), (5, 4)))

    def told(self, stones):
        return line_fault(self.CASES, (1, 0), LinedUp(stones))

    def test_right_ones(self):
        self.assertIsNone(self.told(self.STONES))
        self.assertIsNone(self.told(list(self.STONES)))
        self.assertIsNone(line_fault(GAPPED, (1, 0), Blocked(0, 2)))

    def test_kind(self):
        for thing in JUNK + [self.STONES, (0, 2), NeverMeet((1, 0)), LinedUp, SQUARE]:
            for cases in (self.CASES, GAPPED):
                self.assertEqual(line_fault(cases, (1, 0), thing), "kind")

    def test_stones(self):
        one, two, three = self.STONES
        for thing in JUNK + [(), self.STONES[:2], self.STONES + (two,), (one, two, None), (one, two.corners, three), iter(self.STONES),
                             one, {1: one, 2: two, 3: three}, (one, two, BOX)]:
            self.assertEqual(self.told(thing), "stones")
            self.assertEqual(line_fault(GAPPED, (1, 0), LinedUp(thing)), "stones")

    def test_fit(self):
        one, two, three = self.STONES
        for row in ((SQUARE, two, three), (one, patch((3, 0), (10, 0)), three), (one, two, HEXAGON), (three, two, one)):
            self.assertEqual(self.told(row), "fit")

    def test_line(self):
        one, two, three = self.STONES
        for row in ((one, patch((4, 0)), three), (one, patch((2, 0)), three), (one, patch((3, 0), (4, 0)), three),
                    (patch((0, 0), (4, 1)), patch((4, 0)), three)):
            self.assertEqual(self.told(row), "line")
        self.assertEqual(line_fault(self.CASES, (-1, 0), LinedUp(self.STONES)), "line")
        self.assertEqual(line_fault(GAPPED, (1, 0), LinedUp((one, two, patch((2, 0), (5, 0))))), "line")

    def test_first_and_second(self):
        for first in JUNK + [1, 2, -1, (0,), "0", 0.0]:
            for second in (2, None):
                self.assertEqual(line_fault(GAPPED, (1, 0), Blocked(first, second)), "first")
        for second in JUNK + [0, 1, 3, -1, 2.0, (2,)]:
            self.assertEqual(line_fault(GAPPED, (1, 0), Blocked(0, second)), "second")
        # True and False are no indices.
        crossed = (FREE, spanning(3, 5), spanning(0, 4))
        self.assertIsNone(line_fault(crossed, (1, 0), Blocked(1, 2)))
        self.assertEqual(line_fault(crossed, (1, 0), Blocked(True, 2)), "first")
        self.assertEqual(line_fault(crossed[1:], (1, 0), Blocked(False, 1)), "first")
        self.assertEqual(line_fault(crossed[1:], (1, 0), Blocked(0, True)), "second")
        for first, second in ((0, 1), (0, 2), (None, None)):
            self.assertEqual(line_fault(self.CASES, (1, 0), Blocked(first, second)), "first")

    def test_a_later_two_that_block(self):
        cases = (spanning(0, 3), spanning(2, 5), spanning(1, 4))
        self.assertIsNone(line_fault(cases, (1, 0), Blocked(0, 1)))
        self.assertEqual(line_fault(cases, (1, 0), Blocked(0, 2)), "second")
        self.assertEqual(line_fault(cases, (1, 0), Blocked(1, 2)), "first")


class Orders(unittest.TestCase):
    def test_wholly(self):
        many = set()
        for cases in lines(60, 465):
            for way in DIRECTIONS[:8]:
                ends = ends_of(cases, way)
                due = tuple(order for order in permutations(range(len(cases)))
                            if all(ends[i][0] <= ends[j][1] for k, i in enumerate(order) for j in order[k + 1:]))
                told = orders_along(cases=cases, direction=way)
                self.assertEqual(told, due)
                self.assertEqual(orders_along(list(cases), list(way)), due)
                self.assertTrue(type(told) is tuple and all(type(order) is tuple for order in told))
                self.assertIs(tuple(range(len(cases))) in told, line_verdict(cases, way) != "never")
                many.add(len(told))
        self.assertIn(0, many)
        self.assertIn(24, many)

    def test_some(self):
        self.assertEqual(orders_along((FREE, FREE, FREE), (1, 0)), tuple(permutations(range(3))))
        self.assertEqual(orders_along((spanning(3, 5), spanning(0, 3)), (1, 0)), ((1, 0),))
        self.assertEqual(orders_along((spanning(3, 5), spanning(0, 3)), (-1, 0)), ((0, 1),))
        self.assertEqual(orders_along((spanning(0, 3), FREE, spanning(2, 5)), (1, 0)), ())
        self.assertEqual(orders_along((spanning(3, 5), FREE, spanning(0, 3)), (1, 0)), ((1, 2, 0), (2, 0, 1), (2, 1, 0)))
        self.assertEqual(orders_along([ONE_PLACE] * 4, (1, 0)), tuple(permutations(range(4))))


class Errors(unittest.TestCase):
    def test_no_line_first(self):
        for call in CALLS:
            for cases in NO_LINES + [(NO_STONES[0],), (BOX, NO_STONES[0], None)]:
                for way in ((1, 0), None):
                    with self.assertRaises(BadLine):
                        call(cases, way)

    def test_two_to_four(self):
        for many in (2, 3, 4):
            for call in CALLS:
                call([FREE] * many, (1, 0))
                call((FREE,) * many, [1, 0])

    def test_direction_second(self):
        for call in CALLS:
            for cases in ((BOX, FIVE), (BOX, NO_STONES[0]), [NO_STONES[0]] * 4):
                for way in NO_WAYS:
                    with self.assertRaises(BadDirection):
                        call(cases, way)

    def test_no_stones_last(self):
        for call in CALLS:
            for case in NO_STONES:
                for cases in ((case, BOX), (BOX, case), [BOX, SIDES, BOX, case], (case, case)):
                    with self.assertRaises(NoStones):
                        call(cases, (1, 0))


class Results(unittest.TestCase):
    def test_results(self):
        for kind, names in ((LinedUp, ["stones"]), (Blocked, ["first", "second"])):
            given = [[1], SQUARE][:len(names)]
            told = kind(**dict(zip(names, given)))
            self.assertEqual([getattr(told, name) for name in names], given)
            self.assertTrue(told == kind(*given))
            self.assertFalse(told != kind(*given))
            others = [kind(*given[:k], None, *given[k + 1:]) for k in range(len(given))]
            for other in others + [None, tuple(given), LinedUp([2]), Blocked(1, 2), NeverMeet([1])]:
                self.assertFalse(told == other)
                self.assertTrue(told != other)
            for thing in JUNK:
                kept = kind(*[thing] * len(names))
                self.assertTrue(all(getattr(kept, name) is thing for name in names))


class ManyFigures(unittest.TestCase):
    def test_twelve_facts(self):
        for figures in (60, 300):
            cases = [twelve_facts(figures, every).shifted(p(step, 1)) for every, step in ((0, 0), (1, 9), (2, 18), (3, 27))]
            for way in ((1, 0), (10 ** (figures - 1) + 1, 10 ** 10), (0, 1)):
                told = line_up(cases, way)
                self.assertIsNone(line_fault(cases, way, told))
                self.assertTrue(is_right(cases, way, told))
            self.assertLessEqual(set(orders_along(cases, (1, 0))), {(0, 1, 2, 3)})
            self.assertEqual(line_verdict(cases, (-1, 0)), "never")
        self.assertEqual(line_verdict((Case(TABLE, [ruler(1, 0, 3), within(0, 1, 2)]), FAR), (1, 0)), "always")


if __name__ == "__main__":
    unittest.main()
