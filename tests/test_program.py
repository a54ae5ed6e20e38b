"""[0.7] to [0.9] Over the whole program: nothing that is passed in changes, nothing is kept from call to call."""

import importlib
import inspect
import unittest
from types import GeneratorType

from feltstone.areas import Least, least_area, loss_rows
from feltstone.book import Book
from feltstone.boxes import box_verdict
from feltstone.cases import Case
from feltstone.claims import Answer, answer_of
from feltstone.evenareas import least_even_area
from feltstone.facts import Meets, Ruler, Within
from feltstone.follow import alike_cases
from feltstone.gaps import least_gap
from feltstone.lines import LinedUp, line_up
from feltstone.lying import lying_in
from feltstone.meeting import meeting
from feltstone.mends import find_mends
from feltstone.patches import Patch
from feltstone.rounds import part_lots
from feltstone.settling import settles
from feltstone.spaces import farthest_pair
from feltstone.sure import sure_of
from feltstone.suresides import sure_sides
from feltstone.tables import Table
from feltstone.telling import least_tellers, one_stone
from feltstone.wishes import broken_wish
from tests.made_cases import BOX, FIVE, FOUR, TABLE, TOO_FAR
from tests.makers import HEXAGON, SQUARE, STRETCH, TRIANGLE, meets, p, patch, r, ruler, table, within
from tests.test_interface import CLASSES, FUNCTIONS, signatures

CASE = Case(TABLE, [*FOUR, ruler(1, 1, 5)])
OTHER = Case(table(-3, -3, 9, 9), [meets((0, 0), (6, 0)), within(0, 1, 4), meets((1, 3), (2, 3))])
RULED = Case(TABLE, list(FOUR))
READINGS = [[[1, 0], r(4)], [[0, 1], r(2)], [[1, 1], r(5)]]
LOTS = ([SQUARE, TRIANGLE], [STRETCH, HEXAGON])
POOL = [["put", FOUR[0]], ["strike", 4], ["put", within(1, 1, 5)]]
WISHES = [["stone"], ["sure", [r(2), r(1)]], ["free", within(1, 1, 5)]]

# What is passed for each parameter, unless a function or a module wants something else; rows as lists, where they may be.
USUAL = {
    "case": CASE, "place": [r(2), r(1)], "direction": [1, 1], "amount": r(5), "stone": CASE.whole, "patch": SQUARE, "table": TABLE,
    "step": [r(1), r(-2)], "size": r("3/2"), "fact": within(1, 1, 5), "text": "1,-1/2", "patches": LOTS[0], "others": LOTS[1], "directions": [[1, 0], [0, 1]],
    "readings": READINGS, "width": r(5), "height": r(3), "low": [r(0), r(0)], "most": 1, "number": 4, "pool": POOL, "wishes": WISHES, "changes": POOL,
    "places": [[r(0), r(0)], [r(2), r(1)], [r(1), r(3)]], "claim": ["crosses", [1, 2], r(6)], "twice": r(5), "kept": [0, 2, 3], "facts": [0, 1, 4],
    "cases": [CASE, OTHER.shifted(p(9, 0))], "breadth": r(4), "widths": [r(5), r(1), r(5)], "thing": [1, 0], "one": SQUARE, "other": TRIANGLE,
    "row": [r(3), r(1), r(2)], "share": r("1/3"), "first": [r(0), r(0)], "second": [r(1), r(0)], "third": [r(1), r(2)], "answer": None,
}
BY_MODULE = {
    "ratios": {"one": r("7/2"), "other": r("-2/3"), "text": "-7/2", "low": 0, "high": 5, "thing": r(3), "top": 6, "bottom": -4},
    "places": {"one": [1, 0], "other": [1, 1]},
    "quarrels": {"case": TOO_FAR}, "kept": {"case": RULED, "one": 0, "other": 2, "number": 1, "kept": [0, 2]},
    "areas": {"case": RULED}, "between": {"case": RULED},
    **{name: {"other": OTHER} for name in ("follow", "meeting", "lying", "sums", "steps", "spaces")},
    "liars": {"case": TOO_FAR}, "withliars": {"case": TOO_FAR},
    "settling": {"directions": [[1, 0], [1, 1]], "pool": [[1, 0], [-1, -1]], "place": [r(0), r(0)], "case": RULED},
    "newbreadth": {"others": READINGS[:2], "direction": [1, -1]},
    "telling": {"stone": SQUARE},
}
BY_FUNCTION = {
    "step_from": {"one": [r(0), r(0)], "other": [r(1), r(3)]}, "place_on": {"one": [r(0), r(0)], "other": [r(1), r(3)]},
    "side_normal": {"one": [r(0), r(0)], "other": [r(1), r(3)]}, "patch_of": {"text": "0,0 1,0"}, "fact_of": {"text": "within 1,0 4"},
    "case_of": {"text": "table -9,-9 9,9\nruler 1,0 4"}, "check_choice": {"places": [list(patch.corners[0]) for _, patch in CASE.patches]},
    "stone_of_choice": {"places": [list(patch.corners[0]) for _, patch in CASE.patches]},
    "choice_fault": {"places": [list(patch.corners[0]) for _, patch in CASE.patches]},
    "parting_fault": {"patches": [patch((0, 0))], "others": [patch((1, 1))], "told": part_lots([patch((0, 0))], [patch((1, 1))])},
    "round_fault": {"patches": [patch((1, 1))], "others": [patch((1, 1))], "told": part_lots([patch((1, 1))], [patch((1, 1))])},
    "sure_fault": {"told": sure_of(CASE, p(2, 1))}, "missed_fault": {"told": sure_of(CASE, p(0, 0)), "place": [r(0), r(0)]},
    "sides_fault": {"told": list(sure_sides(CASE))}, "apart_fault": {"told": None}, "answer_fault": {"answer": answer_of(CASE, ("crosses", (1, 2), r(6)))},
    "stone_of_reach": {"direction": [1, 2], "amount": r(6)}, "stone_of_breadth": {"amount": r(4)},
    "unlike_fault": {"unlike": alike_cases(CASE, OTHER)}, "area_fault": {"least": least_area(RULED)}, "stone_of_area": {"twice": r(7)},
    "rows_fault": {"rows": [[first, list(entries)] for first, entries in loss_rows(RULED)]}, "meeting_fault": {"told": meeting(CASE, OTHER)},
    "lying_fault": {"told": lying_in(CASE, OTHER)}, "pair_of_space": {"amount": r(-6)}, "square_between": {"other": HEXAGON},
    "farthest_fault": {"told": farthest_pair(CASE, OTHER)}, "line_fault": {"told": line_up([CASE, OTHER.shifted(p(9, 0))], (1, 1))},
    "least_even_fault": {"least": least_even_area(READINGS)}, "gap_fault": {"gap": least_gap(CASE)}, "box_fault": {"told": box_verdict(CASE, r(5), r(3))},
    "one_stone_fault": {"told": one_stone(CASE)}, "telling_fault": {"told": STRETCH},
    "settling_fault": {"told": settles(RULED, [(1, 0), (1, 1)], p(0, 0))}, "liars_fault": {"lots": ((0,), (1,), (4,))},
    "broken_fault": {"broken": broken_wish(CASE, WISHES)}, "mends_fault": {"mends": find_mends(CASE, POOL, WISHES)},
    "caliper_misfit": {"stone": HEXAGON}, "readings_of": {"stone": HEXAGON}, "least_tellers": {"stone": SQUARE}, "is_kept": {"stone": SQUARE},
    "reach_of": {"direction": [2, 1]}, "order_round": {"directions": [[0, 1], [1, 0], [0, 1]]}, "turn_of": {"one": [1, 0], "other": [2, 1]},
    "is_fact": {"thing": FOUR[0]}, "whole_corners": {"patches": [SQUARE, TRIANGLE]}, "check_directions": {"most": 3},
    "tellers_fault": {"directions": [list(way) for way in least_tellers(TABLE, SQUARE)]},
}
METHODS = {
    "patch_at": [3], "with_fact": [within(1, 0, 3)], "with_facts": [[within(1, 0, 3), meets((1, 1))]], "with_table": [table(0, 0, 1, 1)], "without_fact": [2],
    "without_facts": [[3, 0, 3]], "shifted": [[r(1), r(2)]], "turned": [], "mirrored": [], "grown": [r(2)],
}


def frozen(thing):
    """What a thing says, however deep, so that a change of it would be seen."""
    if isinstance(thing, (list, tuple)):
        return (type(thing).__name__, *[frozen(entry) for entry in thing])
    if isinstance(thing, dict):
        return ("dict", *[(frozen(key), frozen(entry)) for key, entry in thing.items()])
    if isinstance(thing, GeneratorType):
        return ("generator", *[frozen(entry) for entry in thing])
    if hasattr(thing, "__dict__") and not inspect.isfunction(thing):
        return (type(thing).__name__, *[(name, frozen(entry)) for name, entry in sorted(vars(thing).items())])
    return repr(thing)


def all_calls():
    """A row (name, function, arguments) for each function of the interface."""
    for module, text in FUNCTIONS.items():
        for name, _ in signatures(text):
            function = getattr(importlib.import_module(f"feltstone.{module}"), name)
            known = {**USUAL, **BY_MODULE.get(module, {}), **BY_FUNCTION.get(name, {})}
            yield name, function, [known[parameter] for parameter in inspect.signature(function).parameters]


class Functions(unittest.TestCase):
    def test_each_leaves_alone_what_is_passed_in(self):
        for name, function, given in all_calls():
            with self.subTest(name=name):
                before = frozen(given)
                told = frozen(function(*given))
                self.assertEqual(frozen(given), before)
                # Rows in results are tuples, also those within; but for what a result keeps just as it is given.
                if name not in ("check_case", "check_ruled", "check_stone"):
                    self.assertFalse("'list'" in repr(told))

    def test_each_answers_the_same_behind_all_others(self):
        calls = list(all_calls())
        first = [frozen(function(*given)) for _, function, given in calls]
        again = [frozen(function(*given)) for _, function, given in calls[::-1]][::-1]
        for (name, _, _), one, other in zip(calls, first, again):
            with self.subTest(name=name):
                self.assertEqual(one, other)

    def test_a_later_change_of_what_was_passed_in_is_not_seen(self):
        facts, corners, low = [FOUR[0], FOUR[1]], [list(corner) for corner in SQUARE.corners], [r(-9), r(-9)]
        way, patches = [1, 0], [SQUARE, TRIANGLE]
        made = [Patch(corners), Table(low, p(9, 9)), Case(TABLE, facts), Within(way, r(3)), Ruler(way, r(3)), CASE.with_facts(facts)]
        told = [part_lots(patches, patches), sure_of(CASE, low)]
        before = frozen([made, told])
        corners[0][0] = r(7)
        corners.append(None)
        low[0], way[0], facts[0], patches[0] = None, 5, None, None
        facts.append(FOUR[2])
        self.assertEqual(frozen([made, told]), before)

    def test_what_is_returned_is_no_row_that_was_passed_in(self):
        for name, function, given in all_calls():
            told = function(*given)
            if isinstance(told, list) or any(told is entry for entry in given if isinstance(entry, list)):
                self.fail(name)

    def test_right_calls_are_judged_right(self):
        for name, function, given in all_calls():
            if name.endswith("_fault") and name != "telling_fault":
                with self.subTest(name=name):
                    self.assertIsNone(function(*given))


class Objects(unittest.TestCase):
    def test_methods_change_nothing(self):
        for thing in (TABLE, CASE, TOO_FAR, FOUR[0], within(1, 2, 3), Meets(HEXAGON)):
            before = frozen(thing)
            for name, given in METHODS.items():
                if hasattr(thing, name):
                    rows = frozen(given)
                    one = frozen(getattr(thing, name)(*given))
                    self.assertEqual(frozen(getattr(thing, name)(*given)), one)
                    self.assertEqual(frozen(given), rows)
            self.assertEqual(frozen(thing), before)

    def test_no_object_is_equal_to_one_of_another_class(self):
        things = [SQUARE, TABLE, CASE, FOUR[0], Within((1, 0), r(4)), Meets(SQUARE), Answer(SQUARE, None), Least(SQUARE, None), LinedUp(SQUARE)]
        for k, one in enumerate(things):
            for other in things[:k] + things[k + 1:] + [SQUARE.corners, None]:
                self.assertFalse(one == other)
                self.assertTrue(one != other)

    def test_each_result_keeps_just_what_it_is_given(self):
        for (module, head), _ in CLASSES.items():
            (name, arguments), = signatures(head)
            names = arguments.strip("()").split(", ")
            if name not in ("Patch", "Table", "Within", "Ruler", "Meets", "Case", "Book"):
                kind = getattr(importlib.import_module(f"feltstone.{module}"), name)
                given = [[one, [1, 2]] for one in names]
                told = kind(*given)
                self.assertEqual(list(vars(told)), names)
                self.assertTrue(all(getattr(told, one) is entry for one, entry in zip(names, given)))
                self.assertTrue(told == kind(*[[one, [1, 2]] for one in names]))
                for k in range(len(names)):
                    self.assertFalse(told == kind(*given[:k], None, *given[k + 1:]))
                self.assertFalse(told == tuple(given))

    def test_only_a_book_changes(self):
        book, facts = Book(TABLE), list(FOUR)
        case = book.case
        for fact in facts:
            book.put(fact)
        self.assertEqual((case, len(case), len(book)), (Case(TABLE, ()), 0, 4))
        standing, log = book.standing, book.log
        book.take_back(1)
        self.assertEqual((len(standing), len(log)), (4, 4))
        self.assertEqual(facts, list(FOUR))


if __name__ == "__main__":
    unittest.main()
