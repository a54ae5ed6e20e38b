"""[1.4] to [1.6] Places, steps and directions."""

import math
import unittest
from fractions import Fraction
from itertools import product

from feltstone import places
from feltstone.errors import BadAmount, BadDirection, BadPlace, BadSize
from feltstone.places import (
    across, amount_at, between_of, check_amount, check_direction, check_place, check_size, cross_at, direction_of,
    grow_place, is_direction, mean_place, mirror_direction, mirror_place, opposite, order_round, place_by, place_on,
    side_normal, step_from, turn_of, turn_place,
)
from feltstone.ratios import is_whole
from tests.makers import DIRECTIONS, JUNK, amount, cross, number, numbers, p, r, some_places, source

LONG = 10 ** 90 - 1
LONGER = 10 ** 300 - 1
ROUND = [(a, b) for a, b in product(range(-4, 5), repeat=2) if math.gcd(a, b) == 1]
NO_COUPLES = JUNK + [3, [], (), [1], (1,), [1, 2, 3], (1, 2, 3), "10", {1: 0, 0: 1}]


def as_lists(place):
    return list(place)


class Checks(unittest.TestCase):
    def test_places(self):
        for place in (p(1, 2), p(0, 0), p("-7/2", "1/3"), p(LONGER, Fraction(1, LONG))):
            self.assertEqual(check_place(place), place)
            self.assertEqual(check_place(list(place)), place)
            self.assertIs(type(check_place(list(place))), tuple)
        self.assertEqual(check_place(place=p(1, 2)), p(1, 2))

    def test_no_places(self):
        one = (1, 1)
        wrong = [(one,), (one, one, one), [one], [one, one, one], (1, 1), (one, 1), (1, one), ([1, 1], one),
                 (one, [1, 1]), (one, (2, 4)), ((2, 4), one), (one, (1, 0)), (one, (1, -1)), ((True, 1), one),
                 (one, 1.0), (one, None), "ab", {one: one, (2, 1): one}, ((1, 1, 1), one)]
        for thing in NO_COUPLES + wrong:
            with self.assertRaises(BadPlace):
                check_place(thing)

    def test_directions(self):
        for direction in ROUND + [(LONGER, LONG - 1), (-1, 10 ** 299)]:
            for given in (direction, list(direction)):
                self.assertIs(is_direction(given), True)
                self.assertEqual(check_direction(given), direction)
                self.assertIs(type(check_direction(given)), tuple)

    def test_no_directions(self):
        wrong = [(0, 0), (2, 4), (2, 0), (0, -2), (-3, 3), [0, 0], [6, 9], (True, 0), (0, True), (1, False), (1.0, 0),
                 (1, 0.0), ("1", "0"), ((1, 1), (0, 1)), (None, 1), (1, None), (LONG * 2, LONG * 3), (1, 0, 0), (1,)]
        for thing in NO_COUPLES + wrong:
            self.assertIs(is_direction(thing), False, thing)
            with self.assertRaises(BadDirection):
                check_direction(thing)

    def test_amounts_and_sizes(self):
        for one in (r(0), r(3), r("-7/2"), (LONGER, LONG - 1)):
            self.assertEqual(check_amount(one), one)
        for one in (r(1), r("1/9"), (LONGER, LONG - 1), (1, LONGER)):
            self.assertEqual(check_size(one), one)
        for thing in JUNK + [1, 0, [1, 1], (2, 4), (1, 0), (1, -1), (True, 1), 1.0]:
            with self.assertRaises(BadAmount):
                check_amount(thing)
            with self.assertRaises(BadSize):
                check_size(thing)
        for one in (r(0), r(-1), r("-1/9")):
            with self.assertRaises(BadSize):
                check_size(one)


class Directions(unittest.TestCase):
    def test_direction_of(self):
        for step, direction in ((p(3, 0), (1, 0)), (p("1/2", "1/3"), (3, 2)), (p(0, "-5/3"), (0, -1)),
                                (p("-2/3", "4/9"), (-3, 2)), (p(LONG, -2 * LONG), (1, -2)), (p(-8, -12), (-2, -3))):
            self.assertEqual(direction_of(step), direction)
            self.assertEqual(direction_of(as_lists(step)), direction)
        for step in (p(0, 0), [r(0), r(0)]):
            with self.assertRaises(BadDirection):
                direction_of(step)

    def test_direction_of_any_step(self):
        picks = source(11)
        for step in some_places(picks, 300, 9):
            if step != p(0, 0):
                x, y = direction_of(step)
                self.assertTrue(is_direction((x, y)))
                self.assertEqual(x * number(step[1]), y * number(step[0]))
                self.assertGreater(x * number(step[0]) + y * number(step[1]), 0)

    def test_turns_of_directions(self):
        for x, y in ROUND:
            for given in ((x, y), [x, y]):
                self.assertEqual(across(given), (-y, x))
                self.assertEqual(opposite(given), (-x, -y))
                self.assertEqual(mirror_direction(given), (-x, y))
                for call in (across, opposite, mirror_direction):
                    self.assertIs(type(call(given)), tuple)

    def test_between(self):
        self.assertEqual(between_of((1, 0), (0, 1)), (1, 1))
        self.assertEqual(between_of([1, 0], [1, 0]), (1, 0))
        self.assertEqual(between_of((1, 1), (1, -1)), (1, 0))
        self.assertEqual(between_of((3, 1), (-1, 1)), (1, 1))
        self.assertEqual(between_of((3, 2), (0, 1)), (1, 1))
        for one, other in product(ROUND, repeat=2):
            if one == opposite(other):
                with self.assertRaises(BadDirection):
                    between_of(one, other)
            else:
                told = between_of(one, other)
                self.assertEqual(told, direction_of(p(one[0] + other[0], one[1] + other[1])))
                self.assertIs(type(told), tuple)

    def test_turn_of(self):
        self.assertEqual(turn_of((1, 0), (0, 1)), 1)
        self.assertEqual(turn_of((0, 1), (1, 0)), -1)
        self.assertEqual(turn_of((1, 2), (1, 2)), 0)
        self.assertEqual(turn_of([1, 2], [-1, -2]), 0)
        for (a, b), (c, d) in product(ROUND, repeat=2):
            told = turn_of((a, b), (c, d))
            self.assertEqual(told, (a * d > b * c) - (a * d < b * c))
            self.assertTrue(is_whole(told))

    def test_round_order(self):
        listed = [(1, 0), (1, 1), (0, 1), (-1, 0), (0, -1), (1, -1)]
        self.assertEqual(order_round(listed[::-1]), tuple(listed))
        self.assertEqual(order_round([[0, -1], (1, 0), [1, 0], (0, -1), (0, 1)]), ((1, 0), (0, 1), (0, -1)))
        self.assertEqual(order_round(()), ())
        self.assertEqual(order_round([]), ())
        self.assertEqual(order_round(([3, -7],)), ((3, -7),))
        self.assertTrue(all(type(direction) is tuple for direction in order_round([[1, 0], [0, 1]])))

    def test_round_order_of_many(self):
        picks = source(5)
        expected = tuple(sorted(ROUND, key=lambda way: math.atan2(way[1], way[0]) % (2 * math.pi)))
        for _ in range(20):
            given = ROUND + picks.sample(ROUND, 9)
            picks.shuffle(given)
            before = list(given)
            self.assertEqual(order_round(given), expected)
            self.assertEqual(order_round(tuple(given)), expected)
            self.assertEqual(given, before)
            some = picks.sample(ROUND, 3)
            self.assertEqual(order_round(some), tuple(way for way in expected if way in some))

    def test_round_order_of_long_ones_that_nearly_agree(self):
        # Neighbours in this row differ by one part in 10^178 and more.
        first = [(LONG, k) for k in (1, 2)] + [(LONG + k, LONG + k - 1) for k in (0, 1)]
        first += [(LONG + 2, LONG), (LONG - 1, LONG), (1, LONG)]
        first = [(1, 0)] + sorted(first, key=lambda way: Fraction(way[1], way[0]))
        rows = first
        for _ in range(3):
            first = [(-y, x) for x, y in first]
            rows = rows + first
        given = list(rows)
        source(8).shuffle(given)
        self.assertEqual(order_round(given + given[:7]), tuple(rows))
        self.assertEqual(order_round([(LONG, 1), (LONG + 1, 1)]), ((LONG + 1, 1), (LONG, 1)))
        self.assertEqual(order_round([(-1, LONG), (-1, LONG + 1)]), ((-1, LONG + 1), (-1, LONG)))


class Places(unittest.TestCase):
    def setUp(self):
        self.rows = some_places(source(2), 12, 9) + [p(LONG, Fraction(-7, LONGER)), p(Fraction(LONGER, LONG - 1), 3)]

    def test_amounts(self):
        self.assertEqual(amount_at((2, -3), p("1/2", "1/3")), r(0))
        self.assertEqual(amount_at([1, 4], list(p(3, "1/4"))), r(4))
        for direction in DIRECTIONS:
            for place in self.rows:
                self.assertEqual(amount_at(direction, place), r(amount(direction, place)))

    def test_steps(self):
        self.assertEqual(step_from(p(1, 2), p("1/2", 5)), p("-1/2", 3))
        self.assertEqual(place_by(p(1, 2), p("1/2", -5)), p("3/2", -3))
        for one, other in product(self.rows, repeat=2):
            (a, b), (c, d) = numbers(one), numbers(other)
            self.assertEqual(step_from(one, as_lists(other)), p(c - a, d - b))
            self.assertEqual(step_from(as_lists(one), other), p(c - a, d - b))
            self.assertEqual(place_by(as_lists(one), other), p(a + c, b + d))
            self.assertEqual(place_by(one, as_lists(other)), p(a + c, b + d))

    def test_place_on(self):
        self.assertEqual(place_on(p(0, 0), p(4, 2), r("1/2")), p(2, 1))
        for one, other in product(self.rows[-5:], repeat=2):
            (a, b), (c, d) = numbers(one), numbers(other)
            for share in (0, 1, -2, "1/3", "7/2"):
                t = Fraction(share)
                self.assertEqual(place_on(one, list(other), r(share)), p(a + t * (c - a), b + t * (d - b)))
                self.assertEqual(place_on(list(one), other, r(share)), p(a + t * (c - a), b + t * (d - b)))

    def test_mean(self):
        self.assertEqual(mean_place([p(1, 2)]), p(1, 2))
        self.assertEqual(mean_place([p(0, 0), p(1, 0), list(p(1, 1))]), p("2/3", "1/3"))
        self.assertEqual(mean_place((p(1, 2), p(1, 2), p(4, 2))), p(2, 2))
        xs, ys = zip(*map(numbers, self.rows))
        self.assertEqual(mean_place(self.rows), p(sum(xs) / len(xs), sum(ys) / len(ys)))

    def test_cross(self):
        self.assertEqual(cross_at(p(0, 0), p(1, 0), p(0, 1)), r(1))
        self.assertEqual(cross_at(p(0, 0), p(0, 1), p(1, 0)), r(-1))
        self.assertEqual(cross_at(list(p(0, 0)), list(p(1, 1)), list(p("1/2", "1/2"))), r(0))
        self.assertEqual(cross_at(first=p(1, 1), second=p(3, 1), third=p(1, 4)), r(6))
        for one, two, three in product(self.rows[-8:], repeat=3):
            self.assertEqual(cross_at(one, two, three), r(cross(one, two, three)))

    def test_side_normal(self):
        self.assertEqual(side_normal(p(0, 0), p(2, 0)), (0, -1))
        self.assertEqual(side_normal(p(0, 0), p(0, "1/7")), (1, 0))
        self.assertEqual(side_normal(list(p(1, 1)), list(p("1/2", "4/3"))), (2, 3))
        self.assertEqual(side_normal(p(3, 4), p(0, 0)), (-4, 3))
        for one, other in product(self.rows, repeat=2):
            if one != other:
                (a, b), (c, d) = numbers(one), numbers(other)
                self.assertEqual(side_normal(one, other), direction_of(p(d - b, a - c)))
        for one in self.rows:
            with self.assertRaises(BadDirection):
                side_normal(one, list(one))

    def test_leading_places_along(self):
        self.assertEqual(turn_place(p(1, 0)), p(0, 1))
        self.assertEqual(mirror_place(p(2, 3)), p(-2, 3))
        self.assertEqual(grow_place(p(2, 3), r("1/2")), p(1, "3/2"))
        for place in self.rows:
            x, y = numbers(place)
            for given in (place, list(place)):
                self.assertEqual(turn_place(given), p(-y, x))
                self.assertEqual(mirror_place(given), p(-x, y))
                for size in (2, "1/3", 0, -1, LONG):
                    self.assertEqual(grow_place(given, r(size)), p(x * Fraction(size), y * Fraction(size)))

    def test_results_are_tuples(self):
        one, other = list(p(1, 2)), list(p(3, 5))
        results = [step_from(one, other), place_by(one, other), place_on(one, other, r(2)), mean_place([one, other]),
                   side_normal(one, other), turn_place(one), mirror_place(one), grow_place(one, r(2)),
                   amount_at([1, 0], one), cross_at(one, other, one), direction_of(one)]
        for result in results:
            self.assertIs(type(result), tuple)
        self.assertEqual((one, other), (list(p(1, 2)), list(p(3, 5))))


class Orders(unittest.TestCase):
    def test_places_in_order(self):
        picks = source(21)
        for _ in range(40):
            rows = some_places(picks, 8, 3, (1, 2, 3, 5, 7))
            self.assertEqual(places.order_places(rows + rows[:3]), sorted(set(rows), key=numbers))
        near = [p(Fraction(k, LONG), Fraction(1, LONG - k)) for k in (1, 2, 4, 5)] + [p(0, LONGER), p(0, -1)]
        self.assertEqual(places.order_places(near[::-1]), sorted(near, key=numbers))
        one, two = Fraction(1, LONG + 1), Fraction(1, LONG)
        self.assertEqual(places.order_places([p(two, 5), p(one, 5)]), [p(one, 5), p(two, 5)])
        self.assertEqual(places.order_places([p(5, two), p(5, one)]), [p(5, one), p(5, two)])
        self.assertEqual(places.order_places([]), [])

    def test_compare_places(self):
        rows = some_places(source(22), 30, 2)
        for one, other in product(rows, repeat=2):
            a, b = numbers(one), numbers(other)
            self.assertEqual(places.compare_places(one, other), (a > b) - (a < b))


if __name__ == "__main__":
    unittest.main()
