"""[7.6] to [7.8] Further breadths, spans, and readings that say the same; the example of part 7."""

import unittest
from fractions import Fraction

from feltstone.calipers import caliper_misfit, even_whole
from feltstone.errors import BadAmount, BadDirection, BadReading, NoStones, NotMet
from feltstone.evens import even_of, is_even
from feltstone.newbreadth import (
    Differing, alike_calipers, least_span_stone, needless_readings, new_breadth, span_of, span_range, stone_of_new_breadth,
)
from feltstone.patches import Patch, hull_of
from tests.made_cases import lowest
from tests.makers import (
    DIRECTIONS, HEXAGON, POINT, SHAPES, SQUARE, STRETCH, TRIANGLE, amount, bow, number, numbers, p, patch, r, source,
)
from tests.results import check_errors, check_result
from tests.test_calipers import (
    EXAMPLE, LINES, TOO_BROAD, fits_readings, fitting_readings, quarrelling_readings, readings_off, some_ways,
)
from tests.test_critical import NO_WAYS
from tests.test_evens import breadth, some_patches
from tests.test_reaches import NEAR, NO_AMOUNTS

ROWS = fitting_readings(721, 40)
QUARRELLING = quarrelling_readings(722, 12)
WRONG = [None, (EXAMPLE[0], None), EXAMPLE + EXAMPLE[:1], (*EXAMPLE, ((1, 2), r(-1)))]


def rims(row):
    """For each reading the corners of the even whole that are farthest along its direction."""
    corners = even_whole(row).corners
    return [[corner for corner in corners if 2 * amount(way, corner) == number(told)] for way, told in row]


def least_breadth_let(row, way):
    """Twice the greatest least amount without its sign over all rims: each is a place or a stretch."""
    least = []
    for rim in rims(row):
        amounts = [amount(way, corner) for corner in rim]
        least.append(0 if min(amounts) <= 0 <= max(amounts) else min(map(abs, amounts)))
    return 2 * max(least)


def square(place):
    x, y = numbers(place)
    return x * x + y * y


def nearest_square(rim):
    """The least square of the distance from (0, 0) of a place of a corner or a side."""
    (ax, ay), (bx, by) = numbers(rim[0]), numbers(rim[-1])
    length = (bx - ax) ** 2 + (by - ay) ** 2
    share = 0 if length == 0 else max(Fraction(0), min(Fraction(1), Fraction(-ax * (bx - ax) - ay * (by - ay)) / length))
    return (ax + share * (bx - ax)) ** 2 + (ay + share * (by - ay)) ** 2


def span(one):
    return max(square(p(ax - bx, ay - by)) for ax, ay in map(numbers, one.corners) for bx, by in map(numbers, one.corners))


def some_fitting(row, picks, many=4):
    """Even patches that fit: hulls of a place of each rim and of some places more, with their opposites."""
    whole, found = even_whole(row), []
    for _ in range(many):
        places = [between(picks, rim[0], rim[-1]) for rim in rims(row)] + picks.sample(whole.corners, picks.randint(0, 1))
        found.append(hull_of(places + [p(-number(x), -number(y)) for x, y in places]))
    return found


def between(picks, one, other):
    share = Fraction(picks.randint(0, 4), 4)
    (ax, ay), (bx, by) = numbers(one), numbers(other)
    return p(ax + share * (bx - ax), ay + share * (by - ay))


def shares(ends):
    one, two = map(number, ends)
    return [one + (two - one) * share for share in (0, Fraction(1, 9), Fraction(1, 2), Fraction(19, 20), 1)]


def wrong_readings(*calls):
    """Rows for check_errors: each call raises BadReading for wrong readings and NoStones for quarrelling ones."""
    rows = []
    for call in calls:
        for wrong, due in zip(WRONG, [(0, "many"), (1, "direction"), (3, "twice"), (3, "breadth")]):
            rows.append((lambda call=call, wrong=wrong: call(wrong), BadReading, *due))
        rows += [(lambda call=call, row=row: call(row), NoStones) for row in QUARRELLING]
    return rows


class NewBreadth(unittest.TestCase):
    def test_example(self):
        self.assertEqual(new_breadth(readings=EXAMPLE, direction=(1, -1)), (r(3), r(6)))
        self.assertEqual(new_breadth([list(row) for row in EXAMPLE], [1, -1]), (r(3), r(6)))

    def test_wholly(self):
        picks = source(723)
        for row in ROWS:
            for way in LINES:
                told = new_breadth(row, way)
                self.assertEqual(told, (r(least_breadth_let(row, way)), r(breadth(even_whole(row), way))))
                self.assertEqual(new_breadth(row, (-way[0], -way[1])), told)
                least, most = map(number, told)
                for one in some_fitting(row, picks, 2):
                    self.assertTrue(fits_readings(row, one))
                    self.assertTrue(least <= breadth(one, way) <= most)

    def test_of_stones_that_are_not_even(self):
        picks = source(724)
        for one in SHAPES + some_patches(725, 20):
            row = readings_off(one, some_ways(picks))
            for way in DIRECTIONS:
                least, most = map(number, new_breadth(row, way))
                self.assertTrue(least <= breadth(one, way) <= most)

    def test_along_a_reading(self):
        for row in ROWS:
            for way, told in row:
                self.assertEqual(new_breadth(row, way), (told, told))
                self.assertEqual(stone_of_new_breadth(row, way, told), even_whole(row))

    def test_a_stone_of_each(self):
        for row in ROWS:
            for way in LINES:
                for told in shares(new_breadth(row, way)):
                    one = stone_of_new_breadth(readings=row, direction=way, breadth=r(told))
                    self.assertIs(type(one), Patch)
                    self.assertTrue(is_even(one))
                    self.assertTrue(fits_readings(row, one))
                    self.assertEqual(breadth(one, way), told)
        one = stone_of_new_breadth(list(EXAMPLE), [1, -1], r(4))
        self.assertTrue(fits_readings(EXAMPLE, one) and is_even(one) and breadth(one, (1, -1)) == 4)

    def test_just_outside(self):
        for row in ROWS[::3]:
            for way in LINES[::2]:
                least, most = map(number, new_breadth(row, way))
                for told in (least - NEAR, most + NEAR, most + 50, -1, -NEAR, -least - 1):
                    with self.assertRaises(NotMet):
                        stone_of_new_breadth(row, way, r(told))

    def test_each_error_ahead_of_each_later_one(self):
        rows = []
        for wrong, due in zip(WRONG, [(0, "many"), (1, "direction"), (3, "twice"), (3, "breadth")]):
            for way in ((1, 0), None, (2, 4)):
                rows.append((lambda wrong=wrong, way=way: new_breadth(wrong, way), BadReading, *due))
                for told in (r(4), r(-1), None):
                    rows.append((lambda wrong=wrong, way=way, told=told: stone_of_new_breadth(wrong, way, told), BadReading, *due))
        for row in (EXAMPLE, TOO_BROAD):
            for way in NO_WAYS:
                rows.append((lambda row=row, way=way: new_breadth(row, way), BadDirection))
                for told in (r(4), r(-1), None):
                    rows.append((lambda row=row, way=way, told=told: stone_of_new_breadth(row, way, told), BadDirection))
            for told in NO_AMOUNTS:
                rows.append((lambda row=row, told=told: stone_of_new_breadth(row, (1, 3), told), BadAmount))
        for row in QUARRELLING:
            rows.append((lambda row=row: new_breadth(row, (1, 3)), NoStones))
            for told in (r(4), r(-1), r(1000)):
                rows.append((lambda row=row, told=told: stone_of_new_breadth(row, (1, 3), told), NoStones))
        check_errors(self, rows)


class Spans(unittest.TestCase):
    def test_of_patches(self):
        for one in SHAPES + some_patches(726, 40) + [bow(40), patch((0, 0))]:
            told = span_of(patch=one)
            self.assertEqual(told, r(span(one)))
            self.assertEqual(span_of(even_of(one)), told)
        self.assertEqual(span_of(SQUARE), r(8))
        self.assertEqual(span_of(TRIANGLE), r(25))
        self.assertEqual(span_of(POINT), r(0))
        self.assertEqual(span_of(STRETCH), r(20))

    def test_example(self):
        self.assertEqual(span_range(readings=EXAMPLE), (r(16), r(20)))

    def test_ranges(self):
        picks = source(727)
        for row in ROWS:
            least, most = span_range(list(row))
            self.assertEqual(number(least), 4 * max(nearest_square(rim) for rim in rims(row)))
            self.assertEqual(number(most), 4 * max(square(corner) for corner in even_whole(row).corners))
            self.assertEqual(most, span_of(even_whole(row)))
            for one in some_fitting(row, picks):
                self.assertTrue(number(least) <= span(one) <= number(most))

    def test_of_stones_that_are_not_even(self):
        picks = source(728)
        for one in SHAPES + some_patches(729, 20):
            least, most = map(number, span_range(readings_off(one, some_ways(picks))))
            self.assertTrue(least <= span(one) <= most)

    def test_a_stone_of_the_least(self):
        for row in ROWS:
            one = least_span_stone(readings=row)
            self.assertIs(type(one), Patch)
            self.assertTrue(is_even(one))
            self.assertTrue(fits_readings(row, one))
            self.assertEqual(r(span(one)), span_range(row)[0])
        self.assertEqual(span(least_span_stone([list(row) for row in EXAMPLE])), 16)

    def test_errors(self):
        check_errors(self, wrong_readings(span_range, least_span_stone))


def is_needless(row, k):
    others = row[:k] + row[k + 1:]
    return len(others) >= 2 and new_breadth(others, row[k][0]) == (row[k][1], row[k][1])


class Needless(unittest.TestCase):
    def test_example(self):
        self.assertEqual(needless_readings(readings=EXAMPLE), ())
        self.assertEqual(needless_readings(list(EXAMPLE) + [((1, -1), r(5))]), ())

    def test_wholly(self):
        seen = set()
        for row in ROWS:
            told = needless_readings(row)
            self.assertEqual(told, tuple(k for k in range(len(row)) if is_needless(row, k)))
            seen.add(min(len(told), 3))
        self.assertLessEqual({0, 2, 3}, seen)

    def test_some(self):
        # A place, or a stretch that is told already by two readings; a rim that is a corner tells breadths along further lines.
        self.assertEqual(needless_readings(readings_off(POINT, LINES[:3])), (0, 1, 2))
        self.assertEqual(needless_readings((((1, 2), r(0)), ((1, 0), r(3)), ((0, 1), r("3/2")))), (1, 2))
        self.assertEqual(needless_readings((((1, 0), r(4)), ((0, 1), r(2)), ((1, 1), r(6)))), ())
        self.assertEqual(needless_readings((((1, 0), r(4)), ((0, 1), r(2)), ((1, 1), r(6)), ((2, 1), r(10)))), (2, 3))
        self.assertEqual(needless_readings((((1, 0), r(4)), ((0, 1), r(2)), ((2, 1), r(9)))), ())

    def test_two_readings_alone(self):
        for row in (EXAMPLE[:2], readings_off(POINT, LINES[:2]), (((1, 2), r(0)), ((1, 0), r(3)))):
            self.assertEqual(needless_readings(row), ())

    def test_errors(self):
        check_errors(self, wrong_readings(needless_readings))


class Alike(unittest.TestCase):
    ALIKE = [
        (EXAMPLE, EXAMPLE[::-1]), (EXAMPLE, tuple(((-x, -y), told) for (x, y), told in EXAMPLE)),
        (readings_off(POINT, LINES[:2]), readings_off(POINT, LINES[3:8])),
        (readings_off(STRETCH, [(1, 2), (1, 0)]), readings_off(STRETCH, [(0, 1), (3, 1), (1, 2)])),
        ((((1, 0), r(4)), ((0, 1), r(2)), ((1, 1), r(6))), (((1, 0), r(4)), ((1, 1), r(6)), ((0, 1), r(2)), ((2, 1), r(10)))),
    ]

    def test_alike(self):
        for row, others in self.ALIKE:
            self.assertIsNone(alike_calipers(readings=row, others=others))
            self.assertIsNone(alike_calipers(list(others), [list(one) for one in row]))

    def check(self, row, others):
        told = alike_calipers(row, others)
        follow = [all(new_breadth(one, way) == (due, due) for way, due in two) for one, two in ((row, others), (others, row))]
        self.assertEqual(told is None, all(follow))
        if told is None:
            return None
        self.assertIs(type(told), Differing)
        # Some patch fits the first readings alone exactly if not all of the second follow from them.
        self.assertEqual(told.which, 1 if follow[0] else 0)
        self.assertTrue(is_even(told.stone))
        ones, twos = (row, others) if told.which == 0 else (others, row)
        self.assertTrue(fits_readings(ones, told.stone))
        self.assertFalse(fits_readings(twos, told.stone))
        return told.which

    def test_wholly(self):
        seen = set()
        for row, others in list(zip(ROWS, ROWS[1:])) + self.ALIKE:
            seen.add(self.check(row, others))
        for row in ROWS:
            if len(row) > 2:
                seen.add(self.check(row, row[1:]))
                seen.add(self.check(row[1:], row))
        self.assertEqual(seen, {None, 0, 1})

    def test_both_ways(self):
        self.assertEqual(self.check(EXAMPLE[:2], EXAMPLE), 0)
        self.assertEqual(self.check(EXAMPLE, EXAMPLE[:2]), 1)
        self.assertEqual(self.check(EXAMPLE, EXAMPLE[1:]), 1)
        # Each fits patches of its own; so the first is told.
        self.assertEqual(self.check(EXAMPLE, (((1, 0), r(5)), ((0, 1), r(2)))), 0)
        self.assertEqual(self.check(EXAMPLE[:2], EXAMPLE[1:]), 0)
        self.assertEqual(self.check(EXAMPLE[1:], EXAMPLE[:2]), 0)

    def test_errors(self):
        rows = wrong_readings(lambda row: alike_calipers(row, EXAMPLE), lambda row: alike_calipers(EXAMPLE, row),
                              lambda row: alike_calipers(row, row), lambda row: alike_calipers(row, TOO_BROAD))
        rows += [(lambda: alike_calipers(None, (EXAMPLE[0], None)), BadReading, 0, "many"),
                 (lambda: alike_calipers((EXAMPLE[0], None), None), BadReading, 1, "direction"),
                 (lambda: alike_calipers(TOO_BROAD, (EXAMPLE[0], None)), BadReading, 1, "direction"),
                 (lambda: alike_calipers(TOO_BROAD, TOO_BROAD), NoStones)]
        check_errors(self, rows)

    def test_it_is_the_result(self):
        check_result(self, Differing, "which", "stone")


class ManyFigures(unittest.TestCase):
    def test_eight_readings(self):
        picks, wide = source(730), 10 ** 149
        for one in (HEXAGON, hull_of([p(Fraction(picks.randint(-wide, wide), wide - k), Fraction(picks.randint(-wide, wide), wide + k))
                                      for k in range(12)])):
            ways = [long_way(picks, k) for k in range(8)]
            row = readings_off(one, ways)
            self.assertEqual(5 in needless_readings(row), is_needless(row, 5))
            way = long_way(picks, 9)
            told = shares(new_breadth(row, way))[2]
            self.assertEqual(breadth(stone_of_new_breadth(row, way, r(told)), way), told)
            self.assertEqual(r(span(least_span_stone(row))), span_range(row)[0])
            self.assertIsNone(alike_calipers(row, row[::-1]))
            self.assertIsNone(caliper_misfit(row, least_span_stone(row)))


def long_way(picks, k):
    return lowest(10 ** 150 + picks.randint(1, 10 ** 150), (k - 4) * 10 ** 150 + picks.randint(1, 10 ** 149))


if __name__ == "__main__":
    unittest.main()
