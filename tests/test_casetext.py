"""[1.13], [1.14] Texts of facts and cases."""

import unittest

from feltstone.cases import Case
from feltstone.casetext import case_of, case_text, fact_of, fact_text
from feltstone.facts import Meets, Ruler, Within
from feltstone.patches import Patch
from feltstone.placetext import patch_text
from tests.made_cases import BOX, FOUR, MIXED, NOTHING, TABLE, some_cases
from tests.makers import JUNK, SHAPES, bow, meets, r, ruler, table, within
from tests.test_placetext import refused

NO_TEXTS = [junk for junk in JUNK if not isinstance(junk, str)] + [1, ["within 1,0 4"], b"within 1,0 4", NOTHING]
HEAD = "table -9,-9 9,9"
ROW = "ruler 1,0 4"

# What is wrong with the text of a fact.
WRONG = {
    "word": ["", " ", "no", "Within 1,0 4", "RULER 1,0 4", "Meets 0,0", "within1,0 4", "withi", "withins 1,0 4", " within 1,0 4",
             "table -9,-9 9,9", "ruler\t1,0 4", "meet 0,0", "mee ts", "rulerx", "meets,", "1,0 4"],
    "parts": ["within", "within ", "within 1,0", "within 1,0 4 5", "within  1,0 4", "within 1,0  4", "within 1,0 4 ",
              "ruler", "ruler 1,0 4 ", "ruler ", "ruler 4", "ruler a b c", "ruler 2,4 x y", "within   1,0 4"],
    "direction": ["within  4", "within  ", "ruler 1 4", "ruler 1, 4", "ruler ,1 4", "ruler 2,4 4", "ruler 0,0 4", "ruler 1/2,1 4",
                  "ruler 1,1/2 4", "ruler 1/2,1/2 x", "within 1,0,0 4", "within +1,0 4", "within 01,0 4", "within 1;0 4",
                  "within a,b 4", "within 2,0 4", "within 1,-0 4", "within 3/3,1 4", "within (1,0) 4", "within 4 1,0",
                  "ruler  ", "ruler 1,0\n4 5"],
    "amount": ["within 1,0 ", "ruler 1,0 a", "ruler 1,0 4/2", "ruler 1,0 -0", "ruler 1,0 +4", "ruler 1,0 04", "ruler 1,0 3/1",
               "ruler 1,0 1/0", "ruler 1,0 1,0", "within 1,2 1/-2", "within 1,2 1.5", "within 1,2 4\n", "within 1,2 4\r"],
    "patch": ["meets", "meets ", "meets  0,0", "meets 0,0 ", "meets 0,0  2,0", "meets 1", "meets a,b", "meets 2,0 0,0",
              "meets 0,0 0,2 2,2 2,0", "meets 0,0 4/2,0", "meets 0,0 1,0 2,0", "meets 0,0\n"],
}


def huge(figures):
    return "7" * figures


class Facts(unittest.TestCase):
    def test_texts(self):
        rows = [(within(1, -2, 3), "within 1,-2 3"), (ruler(0, 1, "-7/2"), "ruler 0,1 -7/2"), (within(-5, 3, 0), "within -5,3 0"),
                (meets((0, 0)), "meets 0,0"), (meets((-1, 2), (3, "1/2")), "meets -1,2 3,1/2"),
                (meets((0, 0), (2, 0), (0, 2)), "meets 0,0 2,0 0,2")]
        for fact, text in rows:
            self.assertEqual(fact_text(fact=fact), text)
            self.assertEqual(fact_of(text=text), fact)
            self.assertIs(type(fact_of(text)), type(fact))

    def test_there_and_back(self):
        facts = [fact for case in some_cases() for fact in case] + [Meets(told) for told in SHAPES]
        for fact in facts:
            self.assertEqual(fact_of(fact_text(fact)), fact)

    def test_no_text(self):
        for thing in NO_TEXTS + [within(1, 0, 4)]:
            refused(self, lambda: fact_of(thing), 0, "text")

    def test_each_word(self):
        for what, texts in WRONG.items():
            for text in texts:
                with self.subTest(text=text):
                    refused(self, lambda: fact_of(text), 0, what)

    def test_the_first_word(self):
        refused(self, lambda: fact_of("no 2,4 x y"), 0, "word")
        refused(self, lambda: fact_of("ruler 2,4 x y"), 0, "parts")
        refused(self, lambda: fact_of("ruler 2,4 x"), 0, "direction")

    def test_16_and_17_corners(self):
        self.assertEqual(fact_of("meets " + patch_text(bow(16))), Meets(bow(16)))
        refused(self, lambda: fact_of("meets " + patch_text(bow(17))), 0, "patch")

    def test_300_and_301_figures(self):
        for word, kind in (("within", Within), ("ruler", Ruler)):
            self.assertEqual(fact_of(f"{word} {huge(300)},1 -{huge(300)}"), kind((int(huge(300)), 1), (-int(huge(300)), 1)))
            self.assertEqual(fact_of(f"{word} 1,-{huge(300)} 1/{huge(300)}"), kind((1, -int(huge(300))), (1, int(huge(300)))))
            refused(self, lambda: fact_of(f"{word} {huge(301)},1 4"), 0, "direction")
            refused(self, lambda: fact_of(f"{word} 1,-{huge(301)} 4"), 0, "direction")
            refused(self, lambda: fact_of(f"{word} 1,0 {huge(301)}"), 0, "amount")
            refused(self, lambda: fact_of(f"{word} 1,0 1/{huge(301)}"), 0, "amount")
        place = ((int(huge(300)), 1), (1, int(huge(300))))
        self.assertEqual(fact_of(f"meets {huge(300)},1/{huge(300)}"), Meets(Patch((place,))))
        refused(self, lambda: fact_of(f"meets {huge(300)},1/{huge(301)}"), 0, "patch")
        fact = Within((1, 0), (-int(huge(300)), int(huge(299) + "8")))
        self.assertEqual(fact_of(fact_text(fact)), fact)


class Cases(unittest.TestCase):
    def test_texts(self):
        self.assertEqual(case_text(case=NOTHING), HEAD)
        self.assertEqual(case_of(text=HEAD), NOTHING)
        case = Case(table("-1/2", 0, 3, "7/3"), [within(1, 2, "1/2"), meets((0, 0), (1, 0)), ruler(-1, 0, -1)])
        text = "table -1/2,0 3,7/3\nwithin 1,2 1/2\nmeets 0,0 1,0\nruler -1,0 -1"
        self.assertEqual(case_text(case), text)
        self.assertEqual(case_of(text), case)
        self.assertIsInstance(case_of(text), Case)
        self.assertEqual(case_of(text).patches, case.patches)

    def test_there_and_back(self):
        for case in some_cases():
            self.assertEqual(case_of(case_text(case)), case)
            self.assertEqual(case_text(case).split("\n")[1:], [fact_text(fact) for fact in case])

    def test_no_text(self):
        for thing in NO_TEXTS + [[HEAD], FOUR]:
            refused(self, lambda: case_of(thing), 0, "text")

    def test_the_row_of_the_table(self):
        wrong = ["", " ", "\n", "table", "table ", "Table -9,-9 9,9", "TABLE -9,-9 9,9", "table -9,-9", "table  -9,-9 9,9",
                 "table -9,-9  9,9", HEAD + " ", " " + HEAD, HEAD + " 1,1", "table -9 9,9", "table -9,-9 9", "table a,b c,d",
                 "table 9,9 -9,-9", "table 0,0 0,1", "table 0,0 1,0", "table 0,0 0,0", "table 0,1 1,0", "table 0,0 4/2,1",
                 "tables 0,0 1,1", "-9,-9 9,9", ROW, "within 1,0 4", HEAD + "\r", "\n" + HEAD,
                 f"table 0,0 {huge(301)},1", "table 0,0\n1,1"]
        for text in wrong:
            for more in ("", "\n" + ROW, "\nno", "\n" + ROW * 13):
                with self.subTest(text=text + more):
                    refused(self, lambda: case_of(text + more), 0, "table")

    def test_each_word_in_each_row(self):
        for what, texts in WRONG.items():
            for text in texts:
                if "\n" in text:
                    continue
                for row in (1, 2, 5, 12):
                    rows = [HEAD] + [ROW] * 12
                    rows[row] = text
                    with self.subTest(text=text, row=row):
                        refused(self, lambda: case_of("\n".join(rows)), row, what)
                        refused(self, lambda: case_of("\n".join(rows[:row + 1])), row, what)

    def test_the_first_wrong_row(self):
        refused(self, lambda: case_of("\n".join([HEAD, ROW, "ruler 1,0 x", "no", "meets"])), 2, "amount")
        refused(self, lambda: case_of("\n".join([HEAD, "meets", ROW, "ruler 1,0 x"])), 1, "patch")
        refused(self, lambda: case_of("\n".join(["table", "meets", "no"])), 0, "table")

    def test_an_empty_row(self):
        refused(self, lambda: case_of(HEAD + "\n"), 1, "word")
        refused(self, lambda: case_of(HEAD + "\n" + ROW + "\n"), 2, "word")
        refused(self, lambda: case_of(HEAD + "\n\n" + ROW), 1, "word")
        refused(self, lambda: case_of(HEAD + "\r\n" + ROW), 0, "table")

    def test_12_and_13_facts(self):
        self.assertEqual(case_of("\n".join([HEAD] + [ROW] * 12)), Case(TABLE, FOUR[:1] * 12))
        for many in (13, 14, 40):
            refused(self, lambda: case_of("\n".join([HEAD] + [ROW] * many)), 13, "many")
        for row in (1, 12, 13, 14, 15):
            rows = [HEAD] + [ROW] * 15
            rows[row] = "meets 1"
            refused(self, lambda: case_of("\n".join(rows)), row, "patch")
        refused(self, lambda: case_of("\n".join([HEAD] + [ROW] * 12) + "\n"), 13, "word")

    def test_300_figures(self):
        text = f"table 0,0 {huge(300)},1\nwithin {huge(300)},-1 1/{huge(300)}"
        self.assertEqual(case_text(case_of(text)), text)

    def test_what_is_read_is_what_is_told(self):
        self.assertEqual(case_text(BOX), HEAD + "\nruler 1,0 4\nruler 0,1 2\nruler -1,0 0\nruler 0,-1 0")
        self.assertEqual(case_of(case_text(Case(TABLE, MIXED))).facts, tuple(MIXED))
        self.assertEqual(fact_text(fact_of("within 1,0 -1/3")), "within 1,0 -1/3")
        self.assertEqual(fact_of("within 1,0 -1/3").amount, r("-1/3"))


if __name__ == "__main__":
    unittest.main()
