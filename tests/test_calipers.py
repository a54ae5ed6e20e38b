"""[7.3] to [7.5] Readings, their quarrels, and the even whole."""

import unittest
from fractions import Fraction
from itertools import combinations

from feltstone.calipers import Uneven, caliper_misfit, caliper_quarrels, check_readings, even_whole, readings_of
from feltstone.errors import BadReading
from feltstone.evens import even_of, is_even
from feltstone.patches import Patch, hull_of
from tests.made_cases import lowest
from tests.makers import DIRECTIONS, HEXAGON, JUNK, POINT, SHAPES, SQUARE, STRETCH, amount, grid, holds, number, p, patch, r, source
from tests.results import check_errors, check_result
from tests.test_critical import NO_WAYS
from tests.test_evens import breadth, some_patches
from tests.test_reaches import NEAR

EXAMPLE = (((1, 0), r(4)), ((0, 1), r(2)), ((1, 1), r(5)))
TOO_BROAD = EXAMPLE[:2] + (((1, 1), r(7)),)
# No two of these lie along one line.
LINES = [(1, 0), (0, 1), (1, 1), (1, -1), (2, 1), (-1, 2), (-3, 1), (2, -3), (-5, -4), (1, 7)]
NO_ROWS = JUNK + [1, r(5)[:1], "ab", {(1, 0): r(1), (0, 1): r(1)}]
NO_BREADTHS = [thing for thing in JUNK] + [1, 0, 4, [4, 1], (2, 4), (1, 0), (True, 1), (4, True), (-1, 1), (-1, 2), (4.0, 1), "4"]


def some_ways(picks, many=None):
    return picks.sample(LINES, many or picks.randint(2, 8))


def readings_off(stone, ways):
    return tuple((way, r(breadth(stone, way))) for way in ways)


def fitting_readings(seed=701, many=60):
    """Readings that some patch fits: of patches by chance, and such as leave a stretch or one place."""
    picks = source(seed)
    rows = [EXAMPLE, EXAMPLE[:2], readings_off(SQUARE, LINES[:8]), readings_off(HEXAGON, LINES[2:7]), readings_off(STRETCH, LINES[:5]),
            readings_off(POINT, LINES[:2]), readings_off(POINT, LINES[:8]), (((1, 2), r(0)), ((1, 0), r(3))),
            (((1, 2), r(0)), ((1, 0), r(0))), (((1, 0), r(0)), ((0, 1), r(4)), ((1, 1), r(4)))]
    for one in some_patches(seed, many):
        rows.append(readings_off(one, some_ways(picks)))
    return rows


def quarrelling_readings(seed=702, many=40):
    picks, rows = source(seed), [TOO_BROAD, (((1, 0), r(0)), ((0, 1), r(0)), ((1, 1), r(1))), TOO_BROAD + (((1, -1), r(50)),)]
    while len(rows) < many:
        row = tuple((way, r(Fraction(picks.randint(0, 12), picks.randint(1, 3)))) for way in some_ways(picks, picks.randint(3, 8)))
        if quarrels(row):
            rows.append(row)
    return rows


def size(one, other):
    return abs(one[0] * other[1] - one[1] * other[0])


def quarrels(readings):
    found = []
    for lot in combinations(range(len(readings)), 3):
        parts = []
        for k in range(3):
            (one, _), (other, _) = [readings[index] for at, index in enumerate(lot) if at != k]
            parts.append(number(readings[lot[k]][1]) * size(one, other))
        if 2 * max(parts) > sum(parts):
            found.append(lot)
    return tuple(found)


def strips_hold(readings, place):
    return all(2 * abs(amount(way, place)) <= number(told) for way, told in readings)


def fits_readings(readings, stone):
    return all(breadth(stone, way) == number(told) for way, told in readings)


class Readings(unittest.TestCase):
    def test_two_to_eight_as_lists_and_tuples(self):
        picks = source(703)
        for many in range(2, 9):
            ways = some_ways(picks, many)
            due = tuple((way, r(Fraction(k, 3))) for k, way in enumerate(ways))
            for told in (due, list(due), [list(row) for row in due], tuple([list(way), told] for way, told in due)):
                given = check_readings(readings=told)
                self.assertEqual(given, due)
                self.assertTrue(all(type(row) is tuple and type(row[0]) is tuple for row in given))
                self.assertIs(type(given), tuple)

    def test_many(self):
        nine = tuple((way, r(1)) for way in LINES[:9])
        for thing in NO_ROWS + [(), [], EXAMPLE[:1], list(EXAMPLE[:1]), nine, list(nine), nine + nine]:
            with self.assertRaises(BadReading) as caught:
                check_readings(thing)
            self.assertEqual((caught.exception.index, caught.exception.what), (0, "many"))
        self.assertEqual(check_readings(nine[:8]), nine[:8])

    def rows_with(self, *wrong):
        return [list(EXAMPLE[:k]) + [thing] + [((3, 7), r(1))] * 2 for k in range(3) for thing in wrong]

    def fault(self, call, *given):
        with self.assertRaises(BadReading) as caught:
            call(*given)
        return (caught.exception.index, caught.exception.what)

    def test_direction(self):
        wrong = JUNK + [1, (), ((1, 5),), ((1, 5), r(1), r(1)), "ab", p(2, 4)[::-1] + (1,), {(1, 5): 1, 2: 3}, "ab"] + [(way, r(1)) for way in NO_WAYS]
        for k in range(3):
            for thing in wrong:
                self.assertEqual(self.fault(check_readings, [*EXAMPLE[:k], thing, ((3, 7), r(1))]), (k, "direction"))
                # What is wrong with a later reading is told later.
                self.assertEqual(self.fault(check_readings, [*EXAMPLE[:k], thing, ((3, 7), None), None]), (k, "direction"))

    def test_twice(self):
        for way in ((1, 0), (-1, 0), [1, 0]):
            for told in (r(4), r(1), None, r(-1)):
                self.assertEqual(self.fault(check_readings, [*EXAMPLE, (way, told)]), (3, "twice"))
        self.assertEqual(self.fault(check_readings, [((2, 3), r(1)), ((-2, -3), r(1)), None]), (1, "twice"))
        self.assertEqual(self.fault(check_readings, [((2, 3), r(1)), ((3, 2), r(1)), ((0, 1), r(1)), ((3, 2), r(1))]), (3, "twice"))

    def test_breadth(self):
        for thing in NO_BREADTHS:
            for k in range(3):
                self.assertEqual(self.fault(check_readings, [*EXAMPLE[:k], ((5, 1), thing), ((5, 1), r(1))]), (k, "breadth"))
        self.assertEqual(check_readings([((1, 0), r(0)), ((0, 1), r(0))]), (((1, 0), r(0)), ((0, 1), r(0))))

    def test_all_that_take_readings_raise_this_first(self):
        rows = [None, (EXAMPLE[0],), (EXAMPLE[0], None), EXAMPLE + EXAMPLE[:1], (*EXAMPLE, ((1, 2), r(-1)))]
        dues = [(0, "many"), (0, "many"), (1, "direction"), (3, "twice"), (3, "breadth")]
        for row, due in zip(rows, dues):
            for call in (caliper_quarrels, even_whole, lambda given: caliper_misfit(given, SQUARE)):
                self.assertEqual(self.fault(call, row), due)


class OfStones(unittest.TestCase):
    def test_wholly(self):
        picks = source(704)
        for one in SHAPES + some_patches(705, 30):
            ways = some_ways(picks)
            told = readings_of(stone=one, directions=[list(way) for way in ways])
            self.assertEqual(told, readings_off(one, ways))
            self.assertEqual(readings_of(one, tuple(ways)), told)
            self.assertEqual(check_readings(told), told)
            self.assertIsNone(caliper_misfit(readings=told, stone=one))

    def test_wrong_directions(self):
        rows = [(lambda thing=thing: readings_of(SQUARE, thing), BadReading, 0, "many") for thing in NO_ROWS + [(), [(1, 0)], LINES[:9]]]
        for way in NO_WAYS:
            rows.append((lambda way=way: readings_of(SQUARE, [(1, 2), way, (1, 2)]), BadReading, 1, "direction"))
        rows.append((lambda: readings_of(SQUARE, [(1, 2), (0, 1), (-1, -2), None]), BadReading, 2, "twice"))
        rows.append((lambda: readings_of(SQUARE, [(1, 2), [1, 2]]), BadReading, 1, "twice"))
        check_errors(self, rows)

    def test_misfit(self):
        self.assertIsNone(caliper_misfit([list(row) for row in EXAMPLE], patch((-2, "-1/2"), ("3/2", -1), (2, "1/2"), ("-3/2", 1))))
        for row in fitting_readings():
            for k in range(len(row)):
                wrong = [*row[:k], (row[k][0], r(number(row[k][1]) + NEAR)), *row[k + 1:]]
                told = even_whole(row)
                self.assertEqual(caliper_misfit(wrong, told), k)
                for later in range(k + 1, len(row)):
                    wrong[later] = (row[later][0], r(number(row[later][1]) + 1))
                self.assertEqual(caliper_misfit(wrong, told), k)
        self.assertEqual(caliper_misfit(EXAMPLE, POINT), 0)
        self.assertEqual(caliper_misfit(EXAMPLE, patch((0, 0), (4, 0), (4, 3))), 1)
        self.assertEqual(caliper_misfit(EXAMPLE, patch((0, 0), (4, 2))), 2)


class Quarrels(unittest.TestCase):
    def test_example(self):
        self.assertEqual(caliper_quarrels(readings=EXAMPLE), ())
        self.assertEqual(caliper_quarrels(TOO_BROAD), ((0, 1, 2),))

    def test_at_the_edge_and_just_beyond(self):
        # Each of the three may be the one that is too broad.
        for ways, most in [(((1, 0), (0, 1), (1, 1)), (4, 2, 6)), (((1, 0), (1, 1), (0, 1)), (4, 6, 2)),
                           (((1, 1), (1, 0), (0, 1)), (6, 4, 2)), (((2, 1), (1, -1), (0, 1)), (11, 1, 3))]:
            row = [(way, r(told)) for way, told in zip(ways, most)]
            at = most.index(max(most))
            self.assertEqual(caliper_quarrels(row), ())
            self.assertIs(type(even_whole(row)), Patch)
            row[at] = (ways[at], r(most[at] + NEAR))
            self.assertEqual(caliper_quarrels(row), ((0, 1, 2),))

    def test_all_in_order(self):
        several = 0
        for row in quarrelling_readings() + fitting_readings():
            told = caliper_quarrels(list(row))
            self.assertEqual(told, quarrels(row))
            several += len(told) > 1
        self.assertGreater(several, 10)

    def test_two_never_quarrel(self):
        for one, other in ((0, 0), (0, 9), (9, 0), (1, 10 ** 9)):
            self.assertEqual(caliper_quarrels([((1, 0), r(one)), ((5, 3), r(other))]), ())

    def test_a_patch_fits_exactly_if_none_quarrel(self):
        for row in fitting_readings():
            self.assertEqual(quarrels(row), ())
            self.assertTrue(fits_readings(row, even_whole(row)))


class EvenWholes(unittest.TestCase):
    def test_example(self):
        due = patch((-2, "-1/2"), ("-3/2", -1), (2, -1), (2, "1/2"), ("3/2", 1), (-2, 1))
        self.assertEqual(even_whole(readings=EXAMPLE), due)
        self.assertEqual(even_whole([[[1, 0], r(4)], [(0, 1), r(2)], ((1, 1), r(5))]), due)
        self.assertEqual(even_whole(EXAMPLE[:2]), patch((-2, -1), (2, -1), (2, 1), (-2, 1)))

    def test_just_the_places_of_all_strips(self):
        places = grid(-3, 3)
        for row in fitting_readings(706, 40):
            told = even_whole(row)
            self.assertIs(type(told), Patch)
            self.assertIs(is_even(told), True)
            self.assertTrue(all(strips_hold(row, corner) for corner in told.corners))
            for place in places:
                self.assertEqual(holds(told.corners, place), strips_hold(row, place))
            self.assertTrue(fits_readings(row, told))

    def test_it_holds_the_even_stone_of_each_patch_that_fits(self):
        picks = source(707)
        for one in SHAPES + some_patches(708, 30):
            told = even_whole(readings_off(one, some_ways(picks)))
            self.assertTrue(all(holds(told.corners, corner) for corner in even_of(one).corners))

    def test_polygons_stretches_places(self):
        self.assertEqual(even_whole(readings_off(POINT, LINES[:6])), patch((0, 0)))
        self.assertEqual(even_whole([((2, 5), r(0)), ((0, 1), r(0))]), patch((0, 0)))
        self.assertEqual(even_whole(readings_off(STRETCH, LINES[:5] + [(1, 2)])), patch((-2, 1), (2, -1)))
        self.assertEqual(even_whole([((1, 2), r(0)), ((1, 0), r(3))]), patch(("-3/2", "3/4"), ("3/2", "-3/4")))
        self.assertEqual(even_whole([((1, 0), r(3)), ((1, 2), r(0))]), patch(("-3/2", "3/4"), ("3/2", "-3/4")))
        self.assertEqual({min(len(even_whole(row)), 3) for row in fitting_readings()}, {1, 2, 3})

    def test_uneven(self):
        for row in quarrelling_readings():
            told = even_whole(row)
            self.assertIs(type(told), Uneven)
            self.assertEqual(told.quarrel, quarrels(row)[0])
        self.assertEqual(even_whole(TOO_BROAD), Uneven((0, 1, 2)))

    def test_an_even_patch_fits_exactly_if_it_has_a_place_in_each_rim(self):
        picks = source(709)
        for row in fitting_readings(710, 30):
            whole = even_whole(row)
            for _ in range(6):
                some = [picks.choice(whole.corners) for _ in range(picks.randint(1, 5))]
                even = even_of(hull_of(some + [p(-number(x), -number(y)) for x, y in some]))
                rims = all(any(2 * amount(way, corner) == number(told) for corner in even.corners) for way, told in row)
                self.assertEqual(caliper_misfit(row, even) is None, rims)

    def test_it_is_the_result(self):
        check_result(self, Uneven, "quarrel")


class ManyFigures(unittest.TestCase):
    def test_eight_readings(self):
        picks, wide = source(711), 10 ** 299
        ways = [lowest(wide + picks.randint(1, wide), picks.randint(-wide, wide) + k * wide) for k in range(8)]
        one = hull_of([p(Fraction(picks.randint(-wide, wide), picks.randint(1, wide)), Fraction(picks.randint(1, wide), wide + 1))
                       for _ in range(12)])
        row = readings_of(one, ways)
        self.assertEqual(caliper_quarrels(row), ())
        told = even_whole(row)
        self.assertIsNone(caliper_misfit(row, told))
        self.assertTrue(all(holds(told.corners, corner) for corner in even_of(one).corners))
        self.assertTrue(is_even(told))


if __name__ == "__main__":
    unittest.main()
