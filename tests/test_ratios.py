"""[1.1] to [1.3] Ratios."""

import unittest
from fractions import Fraction

from feltstone.errors import BadRatio
from feltstone.ratios import (
    HALF, ONE, ZERO, compare, greatest_of, is_ratio, is_whole, least_of, make_ratio, minus, negative, over, plus,
    ratio_of, ratio_text, sum_of, times,
)
from tests.makers import JUNK, number, r, source

LONG = 10 ** 89 + 3
LONGER = 10 ** 299 + 7


def some_ratios():
    rows = [r(Fraction(top, bottom)) for top in range(-6, 7) for bottom in range(1, 6)]
    rows += [r(Fraction(sign * top, bottom)) for sign in (1, -1) for top in (LONG, LONGER, 10 ** 90 - 1)
             for bottom in (1, 7, LONG + 1, LONGER - 6)]
    return rows


def refused(case, call, what):
    with case.assertRaises(BadRatio) as caught:
        call()
    case.assertEqual(caught.exception.what, what)


class Kinds(unittest.TestCase):
    def test_constants(self):
        self.assertEqual((ZERO, ONE, HALF), ((0, 1), (1, 1), (1, 2)))

    def test_whole_numbers(self):
        for thing in (0, 1, -1, LONGER, -LONGER):
            self.assertIs(is_whole(thing), True)
        for thing in JUNK + [1.0, (1, 1), [1], Fraction(1)]:
            self.assertIs(is_whole(thing), False)

    def test_limits_of_whole_numbers(self):
        self.assertEqual([is_whole(k, 2, 4) for k in range(1, 6)], [False, True, True, True, False])
        self.assertEqual([is_whole(k, 2) for k in (1, 2, 99)], [False, True, True])
        self.assertEqual([is_whole(k, None, 4) for k in (-99, 4, 5)], [True, True, False])
        self.assertEqual([is_whole(k, high=0) for k in (-1, 0, 1)], [True, True, False])
        self.assertEqual([is_whole(k, low=0) for k in (-1, 0, 1)], [False, True, True])
        self.assertIs(is_whole(True, 0, 1), False)
        self.assertIs(is_whole(False, 0, 1), False)
        self.assertIs(is_whole("1", 0, 1), False)

    def test_ratios(self):
        for thing in [(0, 1), (1, 1), (-1, 1), (7, 2), (-7, 2), (LONGER, LONG), (1, LONGER)]:
            self.assertIs(is_ratio(thing), True)

    def test_no_ratios(self):
        wrong = [(0, 2), (2, 4), (-2, 2), (1, 0), (0, 0), (1, -1), (7, -2), [1, 2], [0, 1], 3, 0, (1,), (1, 2, 3), (),
                 (True, 1), (1, True), (False, 1), (1.0, 1), (1, 1.0), ("1", "2"), (LONGER * 3, LONG * 3), "12",
                 (None, 1), (1, None), ((1, 1), (1, 1))]
        for thing in JUNK + wrong:
            self.assertIs(is_ratio(thing), False, thing)

    def test_make_ratio(self):
        self.assertEqual(make_ratio(3), (3, 1))
        self.assertEqual(make_ratio(top=6, bottom=4), (3, 2))
        self.assertEqual(make_ratio(6, -4), (-3, 2))
        self.assertEqual(make_ratio(-6, -4), (3, 2))
        self.assertEqual(make_ratio(-6, 4), (-3, 2))
        self.assertEqual(make_ratio(0, -5), (0, 1))
        self.assertEqual(make_ratio(0, 5), (0, 1))
        self.assertEqual(make_ratio(5, -1), (-5, 1))
        self.assertEqual(make_ratio(LONG * LONGER * 6, LONG * -4), (-3 * LONGER, 2))
        for top in range(-12, 13):
            for bottom in (*range(-12, 0), *range(1, 13)):
                self.assertEqual(make_ratio(top, bottom), r(Fraction(top, bottom)))

    def test_make_ratio_refuses(self):
        for thing in JUNK + [1.0, (1, 1), [1]]:
            refused(self, lambda: make_ratio(thing), "top")
            refused(self, lambda: make_ratio(thing, 0), "top")
            refused(self, lambda: make_ratio(thing, thing), "top")
            refused(self, lambda: make_ratio(1, thing), "bottom")
        refused(self, lambda: make_ratio(1, 0), "bottom")
        refused(self, lambda: make_ratio(0, 0), "bottom")


class Arithmetic(unittest.TestCase):
    def test_small_and_long_numbers_against_fractions(self):
        rows = some_ratios()
        for one in rows:
            self.assertEqual(negative(one), r(-number(one)))
            for other in rows:
                a, b = number(one), number(other)
                self.assertEqual(plus(one, other), r(a + b))
                self.assertEqual(minus(one, other), r(a - b))
                self.assertEqual(times(one, other), r(a * b))
                self.assertEqual(compare(one, other), (a > b) - (a < b))
                if b:
                    self.assertEqual(over(one, other), r(a / b))

    def test_results_are_ratios(self):
        for one in some_ratios():
            for other in ((-3, 2), (0, 1), (5, 6), (LONGER, LONG)):
                results = [plus(one, other), minus(one, other), times(one, other), negative(one)]
                if other != ZERO:
                    results.append(over(one, other))
                for result in results:
                    self.assertTrue(is_ratio(result))

    def test_by_name(self):
        self.assertEqual(minus(one=(1, 2), other=(1, 3)), (1, 6))
        self.assertEqual(over(one=(1, 2), other=(-1, 3)), (-3, 2))
        self.assertEqual(plus(one=(1, 2), other=(1, 2)), (1, 1))
        self.assertEqual(times(one=(2, 3), other=(3, 2)), (1, 1))
        self.assertEqual(compare(one=(1, 2), other=(1, 3)), 1)

    def test_compare_gives_whole_numbers(self):
        for one, other, sign in (((1, 3), (1, 2), -1), ((2, 1), (2, 1), 0), ((-1, 3), (-1, 2), 1)):
            self.assertEqual(compare(one, other), sign)
            self.assertTrue(is_whole(compare(one, other)))

    def test_over_zero(self):
        for one in (ZERO, ONE, (-3, 2)):
            refused(self, lambda: over(one, ZERO), "zero")

    def test_rows(self):
        self.assertEqual(sum_of([]), ZERO)
        self.assertEqual(sum_of(()), ZERO)
        self.assertEqual(sum_of([(1, 2), (1, 3), (1, 6)]), ONE)
        self.assertEqual(sum_of(((-1, 2),)), (-1, 2))
        row = [(1, 2), (-7, 3), (5, 2), (-5, 2), (LONGER, LONG)]
        self.assertEqual(least_of(row), (-5, 2))
        self.assertEqual(greatest_of(tuple(row)), (LONGER, LONG))
        self.assertEqual(least_of(((4, 3),)), (4, 3))
        self.assertEqual(greatest_of([(4, 3)]), (4, 3))

    def test_rows_in_any_order(self):
        picks = source(3)
        rows = some_ratios()
        for _ in range(50):
            row = [picks.choice(rows) for _ in range(picks.randint(1, 6))]
            before = list(row)
            self.assertEqual(sum_of(row), r(sum(map(number, row))))
            self.assertEqual(least_of(row), r(min(map(number, row))))
            self.assertEqual(greatest_of(row), r(max(map(number, row))))
            self.assertEqual(row, before)


class Texts(unittest.TestCase):
    def test_examples(self):
        for one, text in (((3, 1), "3"), ((-7, 2), "-7/2"), ((0, 1), "0"), ((-1, 1), "-1"), ((1, 10), "1/10"),
                          ((10, 1), "10"), ((100, 9), "100/9")):
            self.assertEqual(ratio_text(one), text)
            self.assertEqual(ratio_of(text), one)

    def test_there_and_back(self):
        for one in some_ratios():
            text = ratio_text(one)
            self.assertEqual(text, str(number(one)))
            self.assertEqual(ratio_of(text), one)

    def test_long_numbers_with_zeros_inside(self):
        for top in (10 ** 59, 10 ** 60, 10 ** 60 - 1, 10 ** 60 + 1, 10 ** 120, 10 ** 121 + 10 ** 59, 7 * 10 ** 180 + 1):
            self.assertEqual(ratio_text((top, 1)), str(top))
            self.assertEqual(ratio_text((-top, 7 * top + 1)), f"-{top}/{7 * top + 1}")

    def test_more_figures_than_python_writes_at_once(self):
        self.assertEqual(ratio_text((10 ** 5000 + 1, 1)), "1" + "0" * 4999 + "1")
        self.assertEqual(ratio_text((-1 - 10 ** 5000, 2)), "-1" + "0" * 4999 + "1/2")

    def test_no_texts(self):
        for thing in JUNK + [0, 3, (1, 2), [1], b"3"]:
            refused(self, lambda: ratio_of(thing), "text")

    def test_texts_of_no_ratio(self):
        wrong = ["4/2", "-0", "+1", "01", "3/1", "", " 1", "1 ", "1\n", "1/", "/2", "/", "-", "--1", "1/-2", "-1/-2",
                 "1//2", "1/2/3", "0/1", "0/2", "1/0", "0/0", "00", "-01", "1/02", "1_0", "1.0", "1e3", "2/4", "-2/2",
                 "a", "1a", "\u0661", "\u00b2", "1/\u00b2", "\uff11", "\u22121", "0x1", "- 1", "1 /2", "1/ 2", "1/+2",
                 "6/3", "1,2", "-/2", "3-", "\t1", "5/5", "-1/1"]
        for text in wrong:
            refused(self, lambda: ratio_of(text), "text")

    def test_300_and_301_figures(self):
        most = "9" * 300
        self.assertEqual(ratio_of(most), (10 ** 300 - 1, 1))
        self.assertEqual(ratio_of("-" + most), (1 - 10 ** 300, 1))
        self.assertEqual(ratio_of("-1/" + most), (-1, 10 ** 300 - 1))
        self.assertEqual(ratio_of("1" + "0" * 299 + "/" + most), (10 ** 299, 10 ** 300 - 1))
        for text in ("1" * 301, "-" + "1" * 301, "1/" + "1" * 301, "-1/" + "1" * 301, "1" * 301 + "/2", "1" * 9999):
            refused(self, lambda: ratio_of(text), "text")

    def test_90_figures(self):
        text = "-" + "7" * 90 + "/" + "1" + "0" * 89
        self.assertEqual(ratio_of(text), (-int("7" * 90), 10 ** 89))
        self.assertEqual(ratio_text((-int("7" * 90), 10 ** 89)), text)


if __name__ == "__main__":
    unittest.main()
