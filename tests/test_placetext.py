"""[1.13], [1.14] Texts of places and patches."""

import unittest

from feltstone.errors import BadText
from feltstone.patches import Patch
from feltstone.placetext import patch_of, patch_text, place_of, place_text
from tests.makers import JUNK, SHAPES, bow, grid, p, patch, ps, r, some_places, source

LONG = (int("7" * 300), int("8" * 299 + "9"))
TEXTS = [(p(4, "-1/2"), "4,-1/2"), (p(0, 0), "0,0"), (p("-7/3", 12), "-7/3,12"), (p("1/10", "-20"), "1/10,-20")]


def refused(test, call, row, what):
    with test.assertRaises(BadText) as caught:
        call()
    test.assertEqual((caught.exception.row, caught.exception.what), (row, what))


class Places(unittest.TestCase):
    def test_texts(self):
        for place, text in TEXTS:
            self.assertEqual(place_text(place=place), text)
            self.assertEqual(place_text(list(place)), text)
            self.assertEqual(place_of(text=text), place)
            self.assertEqual((type(place_of(text)), type(place_of(text)[0])), (tuple, tuple))

    def test_there_and_back(self):
        for place in grid(-2, 2, "1/3") + some_places(source(131), 50, 10 ** 40, (1, 7, 10 ** 30)):
            self.assertEqual(place_of(place_text(place)), place)

    def test_no_text(self):
        for thing in [junk for junk in JUNK if not isinstance(junk, str)] + [1, p(1, 2), ["1,2"], b"1,2"]:
            refused(self, lambda: place_of(thing), 0, "text")

    def test_no_place(self):
        wrong = ["", ",", "1", "1,", ",1", "1,2,3", "1,,2", " 1,2", "1,2 ", "1, 2", "1 2", "1;2", "1,2\n", "+1,2", "01,2",
                 "1,-0", "2/4,1", "1,3/1", "1,1/0", "1/-2,3", "1,2/", "1,/2", "--1,2", "1.5,2", "a,b", "(1,2)", "1_0,2",
                 "\u0661,2", "1,\u00b2", "1,2 3,4", "1\n,2", "\t1,2"]
        for text in wrong:
            with self.subTest(text=text):
                refused(self, lambda: place_of(text), 0, "place")

    def test_300_and_301_figures(self):
        place = ((LONG[0], 1), (-LONG[1], LONG[0] // 7 * 10 + 3))
        self.assertEqual(place_of("7" * 300 + ",0"), ((LONG[0], 1), r(0)))
        self.assertEqual(place_of("-" + "7" * 300 + ",0"), ((-LONG[0], 1), r(0)))
        text = "1/1" + "0" * 299 + ",1"
        self.assertEqual(place_of(text), ((1, 10 ** 299), r(1)))
        self.assertEqual(place_text(place_of(text)), text)
        self.assertEqual(place_text(place)[:300], "7" * 300)
        for wrong in ("7" * 301 + ",0", "0,-" + "7" * 301, "1/1" + "0" * 300 + ",1", "1," + "9" * 5000):
            refused(self, lambda: place_of(wrong), 0, "place")


class Patches(unittest.TestCase):
    def test_texts(self):
        rows = [(patch((0, 0)), "0,0"), (patch(("1/2", -3)), "1/2,-3"), (patch((-1, 2), (3, 0)), "-1,2 3,0"),
                (patch((0, 0), (2, 0), (2, 2), (0, 2)), "0,0 2,0 2,2 0,2"),
                (patch((0, 0), ("7/2", "-1/3"), (0, 1)), "0,0 7/2,-1/3 0,1")]
        for told, text in rows:
            self.assertEqual(patch_text(patch=told), text)
            self.assertEqual(patch_of(text=text), told)
            self.assertIsInstance(patch_of(text), Patch)

    def test_there_and_back(self):
        for told in SHAPES + [bow(16), bow(17), bow(40)]:
            self.assertEqual(patch_of(patch_text(told)), told)
            self.assertEqual(patch_text(told).split(" "), [place_text(corner) for corner in told.corners])

    def test_no_text(self):
        for thing in [junk for junk in JUNK if not isinstance(junk, str)] + [1, ps((1, 2)), patch((1, 2)), ["1,2"]]:
            refused(self, lambda: patch_of(thing), 0, "text")

    def test_no_patch(self):
        wrong = ["", " ", "1", "0,0 ", " 0,0", "0,0  2,0", "0,0\n2,0", "0,0\t2,0", "0,0;2,0", "0,0,2,0", "0,0 2", "0,0 a,b",
                 "0,0 4/2,0", "0,0 2,0 2,02", "0,0 +2,0",
                 "2,0 0,0", "0,0 0,0", "0,0 1,0 2,0", "0,0 2,0 2,2 0,2 0,0", "0,2 2,2 2,0 0,0", "2,0 2,2 0,2 0,0",
                 "0,0 0,2 2,2 2,0", "0,0 2,0 2,2 0,2 0,1", "0,0 4,0 1,1 0,4", "0,0 2,2 2,0 0,2"]
        for text in wrong:
            with self.subTest(text=text):
                refused(self, lambda: patch_of(text), 0, "patch")

    def test_300_and_301_figures(self):
        text = "0," + "7" * 300 + " 1,1/" + "1" + "0" * 299
        self.assertEqual(patch_of(text).corners, (((0, 1), (LONG[0], 1)), ((1, 1), (1, 10 ** 299))))
        self.assertEqual(patch_text(patch_of(text)), text)
        refused(self, lambda: patch_of("0,7" + text[2:]), 0, "patch")
        refused(self, lambda: patch_of(text + "0"), 0, "patch")


if __name__ == "__main__":
    unittest.main()
