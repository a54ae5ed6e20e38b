"""[6.7] Steps by which the second stones of pairs are shifted."""

import unittest
from fractions import Fraction

from feltstone.lying import NeverIn, SurelyIn, lying_in
from feltstone.meeting import NeverMeet, SurelyMeet, meeting
from feltstone.patches import Patch, hull_of
from feltstone.steps import possible_holds, possible_steps, sure_holds, sure_steps
from feltstone.sure import sure_places
from tests.made_cases import (
    BOX, FAR, HIGH, NOTHING, ONE_PLACE, ON_STRETCH, SMALL, THREE_PLACES, WIDE, greatest_least, least_greatest, lot_of, meet,
    pairs_of_cases, place_in, stones_in, twelve_facts,
)
from tests.makers import grid, holds, numbers, p, patch, r, source
from tests.test_sums import SURE, region, ways_of

PAIRS = pairs_of_cases(40, 441) + SURE
O = p(0, 0)


def moved(one, step, sign=1):
    (dx, dy) = numbers(step)
    return hull_of([p(x + sign * dx, y + sign * dy) for x, y in map(numbers, one.corners)])


def lies_on(one, other):
    return all(holds(other.corners, corner) for corner in one.corners)


def steps_told(case, other):
    one, two = lot_of(case), lot_of(other)
    rows = [(way, greatest_least(one, way) - least_greatest(two, way)) for way in {*ways_of(case), *ways_of(other)}]
    return region(rows + [((-x, -y), greatest_least(one, (-x, -y)) - least_greatest(two, (-x, -y))) for (x, y), _ in rows])


def some_steps(case, other, picks):
    """Steps, some of them on the rims of what the functions tell."""
    steps = [O, p(picks.randint(-9, 9), picks.randint(-9, 9))]
    for told in (sure_steps(case, other), possible_steps(case, other), sure_holds(case, other), possible_holds(case, other)):
        if told is not None:
            steps += [told.corners[0], told.middle, place_in(told, picks)]
    near = [p(numbers(step)[0] + Fraction(1, 10 ** 15), numbers(step)[1] - Fraction(1, 10 ** 16)) for step in steps]
    return steps + near


def has(told, step):
    return told is not None and holds(told.corners, step)


class Steps(unittest.TestCase):
    def test_example(self):
        self.assertEqual(sure_steps(case=WIDE, other=HIGH), patch((0, 0)))
        self.assertEqual(possible_steps(case=WIDE, other=HIGH), patch((-4, -4), (4, -4), (4, 4), (-4, 4)))
        self.assertIsNone(sure_holds(case=WIDE, other=HIGH))
        self.assertEqual(possible_holds(case=WIDE, other=HIGH), patch((0, -4), (0, 4)))

    def test_0_lies_in_them_as_the_results_say(self):
        seen = set()
        for case, other in PAIRS:
            met, lying = meeting(case, other), lying_in(case, other)
            rows = [(sure_steps, type(met) is SurelyMeet), (possible_steps, type(met) is not NeverMeet),
                    (sure_holds, type(lying) is SurelyIn), (possible_holds, type(lying) is not NeverIn)]
            for call, due in rows:
                told = call(case, other)
                self.assertTrue(told is None or type(told) is Patch)
                self.assertIs(has(told, O), due)
                seen.add((call, due, told is None))
        self.assertEqual(len({(call, due) for call, due, _ in seen}), 8)
        for call in (sure_steps, sure_holds, possible_holds):
            self.assertIn((call, False, True), seen)

    def test_sure_steps_are_as_told(self):
        kinds = set()
        for case, other in PAIRS:
            told = sure_steps(case, other)
            self.assertEqual(told, steps_told(case, other))
            kinds.add(None if told is None else min(3, len(told)))
        self.assertEqual(kinds, {None, 1, 2, 3})

    def test_possible_steps_are_as_told(self):
        for case, other in PAIRS:
            one, two = map(numbers, case.whole.corners), list(map(numbers, other.whole.corners))
            due = hull_of([p(ax - bx, ay - by) for ax, ay in one for bx, by in two])
            self.assertEqual(possible_steps(case, other), due)

    def test_each_step(self):
        picks = source(442)
        for case, other in PAIRS[::3] + SURE:
            sure = sure_places(other)
            for step in some_steps(case, other, picks):
                shifted = moved(other.whole, step)
                self.assertIs(has(possible_steps(case, other), step), meet(case.whole.corners, shifted.corners))
                inside = sure is not None and lies_on(moved(case.whole, step, -1), sure)
                self.assertIs(has(sure_holds(case, other), step), inside)
                each = all(meet(one.corners, shifted.corners) for one in lot_of(case))
                self.assertIs(has(possible_holds(case, other), step), each)

    def test_each_pair(self):
        picks = source(443)
        for case, other in PAIRS[::4] + SURE:
            rows = [(call(case, other), by) for call, by in ((sure_steps, meet), (sure_holds, None))]
            for one, two in zip(stones_in(case, picks, 2), stones_in(other, picks, 2)):
                for told, by in rows:
                    for step in told.corners if told else ():
                        later = moved(two, step)
                        self.assertTrue(by(one.corners, later.corners) if by else lies_on(one, later))

    def test_against_shifted_cases(self):
        for case, other in PAIRS[::7]:
            for step in grid(-6, 6, 4):
                later = other.shifted(step)
                self.assertIs(has(sure_steps(case, other), step), type(meeting(case, later)) is SurelyMeet)
                self.assertIs(has(sure_holds(case, other), step), type(lying_in(case, later)) is SurelyIn)
                self.assertIs(has(possible_holds(case, other), step), type(lying_in(case, later)) is not NeverIn)

    def test_some(self):
        self.assertEqual(sure_holds(ONE_PLACE, ONE_PLACE), patch((0, 0)))
        self.assertEqual(sure_holds(ONE_PLACE, THREE_PLACES), patch((-3, 1), (1, -3), (1, 1)))
        self.assertEqual(sure_holds(SMALL, THREE_PLACES), patch(("-5/2", 0), (0, "-5/2"), (0, 0)))
        self.assertIsNone(sure_holds(THREE_PLACES, ONE_PLACE))
        self.assertIsNone(sure_holds(NOTHING, THREE_PLACES))
        self.assertIsNone(sure_holds(ONE_PLACE, NOTHING))
        self.assertIsNone(possible_holds(BOX, ONE_PLACE))
        self.assertIsNone(sure_steps(NOTHING, NOTHING))
        self.assertEqual(sure_steps(ONE_PLACE, ON_STRETCH), patch((0, -1), (1, -2)))
        self.assertEqual(possible_steps(ONE_PLACE, FAR), patch((-29, -8), (-19, -8), (-19, 10), (-29, 10)))

    def test_led_along(self):
        for case, other in PAIRS[::6]:
            for call in (sure_steps, possible_steps, sure_holds, possible_holds):
                told = call(case, other)
                turned = call(case.turned(), other.turned())
                self.assertEqual(turned, told and hull_of([((-y[0], y[1]), x) for x, y in told]))
                self.assertEqual(call(case.shifted(p(1, 2)), other.shifted(p(1, 2))), told)
                grown = call(case.grown(r(3)), other.grown(r(3)))
                self.assertEqual(grown, told and hull_of([p(3 * x, 3 * y) for x, y in map(numbers, told.corners)]))

    def test_exchanged(self):
        for case, other in PAIRS[::5]:
            for call in (sure_steps, possible_steps):
                told = call(case, other)
                self.assertEqual(call(other, case), told and hull_of([p(-x, -y) for x, y in map(numbers, told.corners)]))


class ManyFigures(unittest.TestCase):
    def test_twelve_facts(self):
        for figures, every, others in ((60, 1, 2), (60, 2, 0), (150, 0, 3)):
            case, other = twelve_facts(figures, every), twelve_facts(figures, others)
            for call in (sure_steps, possible_steps, sure_holds, possible_holds):
                told = call(case, other)
                self.assertTrue(told is None or type(told) is Patch)
            self.assertIs(has(sure_steps(case, other), O), type(meeting(case, other)) is SurelyMeet)
            self.assertIs(has(possible_holds(case, other), O), type(lying_in(case, other)) is not NeverIn)


if __name__ == "__main__":
    unittest.main()
