"""[1.12] Tables."""

import unittest

from feltstone.errors import BadPlace, BadSize, BadTable
from feltstone.patches import grow_patch, mirror_patch, shift_patch, turn_patch
from feltstone.tables import Table
from tests.makers import JUNK, p, patch, ps, r, table

LONG = 10 ** 299 + 1
TABLES = [table(-9, -9, 9, 9), table(1, "-7/2", "5/3", 4), table(0, 0, LONG, f"1/{LONG}"), table(-5, -3, -4, -2)]
NO_PLACES = JUNK + [1, (1, 1), [r(1)], (r(1), r(2), r(3)), (r(1), 2), (1, r(2)), ([1, 1], r(2)), ((2, 4), r(1))]


def refused(case, low, high, what):
    with case.assertRaises(BadTable) as caught:
        Table(low, high)
    case.assertEqual(caught.exception.what, what)


class Making(unittest.TestCase):
    def test_attributes(self):
        low, high = list(p(-1, "1/2")), list(p(3, 4))
        made = Table(low=low, high=high)
        low[0] = high[1] = r(0)
        self.assertEqual((made.low, made.high), ps((-1, "1/2"), (3, 4)))
        self.assertIs(type(made.low), tuple)
        self.assertIs(type(made.high), tuple)
        self.assertEqual(made.ground, patch((-1, "1/2"), (3, "1/2"), (3, 4), (-1, 4)))

    def test_ground_of_each(self):
        for one in TABLES:
            (a, b), (c, d) = one.low, one.high
            self.assertEqual(one.ground.corners, ((a, b), (c, b), (c, d), (a, d)))

    def test_words_in_order(self):
        good, above = p(0, 0), p(1, 1)
        for thing in NO_PLACES:
            refused(self, thing, above, "low")
            refused(self, thing, thing, "low")
            refused(self, good, thing, "high")

    def test_order(self):
        for high in (p(0, 1), p(1, 0), p(0, 0), p(-1, 1), p(1, -1), p(-1, -1), p(5, f"-1/{LONG}")):
            refused(self, p(0, 0), high, "order")
        self.assertEqual(Table(p(0, 0), p(f"1/{LONG}", f"1/{LONG}")).low, p(0, 0))

    def test_equality(self):
        one = table(0, 0, 2, 3)
        self.assertTrue(one == Table(list(p(0, 0)), list(p(2, 3))))
        self.assertFalse(one != table(0, 0, 2, 3))
        for other in (table(0, 1, 2, 3), table(0, 0, 2, 4), table(1, 0, 2, 3), table(0, 0, 3, 3), one.ground, None,
                      (one.low, one.high), one.ground.corners):
            self.assertFalse(one == other)
            self.assertTrue(one != other)


class LedAlong(unittest.TestCase):
    def test_examples(self):
        one = table(1, "-7/2", "5/3", 4)
        self.assertEqual(one.shifted(p(1, "1/2")), table(2, -3, "8/3", "9/2"))
        self.assertEqual(one.turned(), table(-4, 1, "7/2", "5/3"))
        self.assertEqual(one.mirrored(), table("-5/3", "-7/2", -1, 4))
        self.assertEqual(one.grown(r(6)), table(6, -21, 10, 24))

    def test_grounds(self):
        step, size = p("-7/3", LONG), r("2/5")
        for one in TABLES:
            self.assertEqual(one.shifted(step).ground, shift_patch(one.ground, step))
            self.assertEqual(one.shifted(list(step)), one.shifted(step))
            self.assertEqual(one.turned().ground, turn_patch(one.ground))
            self.assertEqual(one.mirrored().ground, mirror_patch(one.ground))
            self.assertEqual(one.grown(size).ground, grow_patch(one.ground, size))
            for other in (one.shifted(step), one.turned(), one.mirrored(), one.grown(size)):
                self.assertIsInstance(other, Table)

    def test_the_old_table_stays(self):
        one = table(0, 0, 2, 3)
        one.shifted(p(1, 1)), one.turned(), one.mirrored(), one.grown(r(2))
        self.assertEqual(one, table(0, 0, 2, 3))
        self.assertEqual(one.ground, patch((0, 0), (2, 0), (2, 3), (0, 3)))

    def test_errors(self):
        for thing in NO_PLACES:
            with self.assertRaises(BadPlace):
                TABLES[0].shifted(thing)
        for thing in JUNK + [1, 0, r(0), r(-1), r("-1/2"), [1, 1], (2, 4), (1, 0), (True, 1), 1.0]:
            with self.assertRaises(BadSize):
                TABLES[0].grown(thing)


if __name__ == "__main__":
    unittest.main()
