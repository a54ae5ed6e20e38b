"""[10.1] and [10.2] Changes of a case."""

import unittest

from feltstone.cases import Case
from feltstone.changes import case_after, check_changes
from feltstone.errors import BadChange
from tests.made_cases import BOX, FIVE, FOUR, NOTHING, TABLE, TOO_FAR, some_fact
from tests.makers import JUNK, SQUARE, meets, ruler, source, within
from tests.results import check_errors

A, B, C = within(1, 2, 7), meets((1, 1)), ruler(1, 1, 5)
NO_ROWS = JUNK + [1, {0: ("strike", 0)}, (change for change in [("strike", 0)]), "ab"]
NO_CHANGES = [thing for thing in JUNK] + [
    1, (), [], ("put",), ("strike",), (A,), A, ("put", A, A), ("strike", 0, 1), ("Put", A), ("", A), ("puts", A), (b"put", A), (["put"], A), (None, A),
    (0, "strike"), (A, "put"), {"put": A, "strike": 0}, "put", "ab", ("back", 0), (True, 0),
]


def after(case, changes):
    """The facts behind some changes, one by one."""
    struck = [change[1] for change in changes if change[0] == "strike"]
    return [fact for k, fact in enumerate(case.facts) if k not in struck] + [change[1] for change in changes if change[0] == "put"]


class Checked(unittest.TestCase):
    def test_lists_and_tuples(self):
        due = (("put", A), ("strike", 0), ("strike", 3), ("put", A), ("strike", 0))
        for changes in (due, list(due), [list(change) for change in due], tuple([word, thing] for word, thing in due)):
            told = check_changes(case=BOX, changes=changes)
            self.assertEqual(told, due)
            self.assertTrue(type(told) is tuple and all(type(change) is tuple for change in told))
        self.assertEqual(check_changes(BOX, []), ())
        self.assertEqual(check_changes(NOTHING, ()), ())

    def test_many(self):
        rows = [(lambda call=call, changes=changes: call(BOX, changes), BadChange, 0, "many") for call in (check_changes, case_after)
                for changes in NO_ROWS + [[("strike", 0)] * 101, (("strike", 0),) * 101, [None] * 101, (None,) * 200]]
        check_errors(self, rows)
        self.assertEqual(len(check_changes(BOX, [("strike", 0)] * 100)), 100)
        self.assertEqual(case_after(BOX, [("strike", 0)] * 100).facts, BOX.facts[1:])

    def test_change(self):
        rows = []
        for wrong in NO_CHANGES:
            for k in (0, 3):
                rows.append((lambda wrong=wrong, k=k: check_changes(BOX, [("strike", 0)] * k + [wrong, None]), BadChange, k, "change"))
            rows.append((lambda wrong=wrong: case_after(BOX, (("put", A), wrong, ("put", None))), BadChange, 1, "change"))
        check_errors(self, rows)

    def test_fact(self):
        rows = []
        for wrong in JUNK + [1, SQUARE, BOX, A.half, (A,), [A], "within 1,0 4"]:
            rows += [(lambda wrong=wrong, k=k: check_changes(BOX, [("put", A)] * k + [["put", wrong], ("strike", 9)]), BadChange, k, "fact") for k in (0, 2)]
        check_errors(self, rows)

    def test_number(self):
        rows = []
        for wrong in JUNK + [-1, 4, 5, 100, 0.0, "0", (0,), A]:
            rows += [(lambda wrong=wrong, k=k: check_changes(BOX, [("put", A)] * k + [("strike", wrong), ("put", None)]), BadChange, k, "number") for k in (0, 2)]
        # A fact that is put cannot be struck.
        rows.append((lambda: check_changes(BOX, [("put", A), ("strike", 4)]), BadChange, 1, "number"))
        rows.append((lambda: check_changes(NOTHING, [("strike", 0)]), BadChange, 0, "number"))
        check_errors(self, rows)

    def test_full(self):
        eight = [("put", A)] * 8
        self.assertEqual(len(case_after(BOX, eight)), 12)
        self.assertEqual(len(case_after(NOTHING, [("put", A)] * 12)), 12)
        full = Case(TABLE, [A] * 12)
        rows = [(lambda: check_changes(BOX, eight + [("put", A), None]), BadChange, 8, "full"), (lambda: case_after(full, [("put", A)]), BadChange, 0, "full"),
                (lambda: case_after(NOTHING, [("put", A)] * 13), BadChange, 12, "full"),
                # Facts that are struck count, too, in whatever order.
                (lambda: case_after(BOX, [("strike", k) for k in range(4)] + eight + [("put", A)]), BadChange, 12, "full"),
                (lambda: case_after(full, [("strike", 0), ("put", A)]), BadChange, 1, "full")]
        check_errors(self, rows)

    def test_two_faults_at_once(self):
        full = Case(TABLE, [A] * 12)
        rows = [(lambda: check_changes(BOX, [("strike", 9), None]), BadChange, 0, "number"), (lambda: check_changes(BOX, [None, ("strike", 9)]), BadChange, 0, "change"),
                (lambda: check_changes(BOX, [("put", None), ("strike", 9)]), BadChange, 0, "fact"), (lambda: check_changes(full, [("put", None)]), BadChange, 0, "fact"),
                (lambda: check_changes(full, [("put", A), ("strike", 12)]), BadChange, 0, "full"), (lambda: check_changes(full, [("strike", 12), ("put", A)]), BadChange, 0, "number"),
                (lambda: check_changes(full, [("put", A, A)]), BadChange, 0, "change")]
        check_errors(self, rows)


class After(unittest.TestCase):
    def test_in_every_order(self):
        for changes in ([("put", A), ("strike", 1), ("put", B)], [("strike", 1), ("put", A), ("put", B)], [("put", A), ("put", B), ("strike", 1)]):
            self.assertEqual(case_after(case=BOX, changes=changes), Case(TABLE, [FOUR[0], FOUR[2], FOUR[3], A, B]))
        self.assertEqual(case_after(BOX, [("put", B), ("put", A), ("strike", 1)]), Case(TABLE, [FOUR[0], FOUR[2], FOUR[3], B, A]))

    def test_numbers_are_those_of_the_case_passed(self):
        self.assertEqual(case_after(BOX, [("strike", 0), ("strike", 1)]).facts, BOX.facts[2:])
        self.assertEqual(case_after(BOX, [("strike", 3), ("strike", 0), ("strike", 3)]).facts, BOX.facts[1:3])
        self.assertEqual(case_after(BOX, [("strike", k) for k in (2, 0, 3, 1)]).facts, ())

    def test_the_table_stays_and_none_is_no_change(self):
        for case in (BOX, TOO_FAR, NOTHING, FIVE):
            told = case_after(case, ())
            self.assertEqual(told, case)
            self.assertIs(type(told), Case)
            self.assertEqual(case_after(case, [("put", C)]).table, case.table)

    def test_by_chance(self):
        picks = source(941)
        for _ in range(80):
            case = Case(TABLE, [some_fact(picks) for _ in range(picks.randint(0, 8))])
            changes = [("put", some_fact(picks)) for _ in range(picks.randint(0, 4))]
            if len(case):
                changes += [("strike", picks.randrange(len(case))) for _ in range(picks.randint(0, 5))]
            picks.shuffle(changes)
            before = list(case.facts)
            self.assertEqual(list(case_after(case, changes).facts), after(case, changes))
            self.assertEqual(list(case.facts), before)


if __name__ == "__main__":
    unittest.main()
