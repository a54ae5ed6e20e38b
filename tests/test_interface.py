"""The interface: names, arguments, and the file in which each stands."""

import importlib
import inspect
import unittest

FUNCTIONS = {
    "ratios": "is_whole(thing, low=None, high=None) is_ratio(thing) make_ratio(top, bottom=1) plus(one, other) "
              "minus(one, other) times(one, other) over(one, other) negative(one) compare(one, other) sum_of(row) "
              "least_of(row) greatest_of(row) ratio_text(one) ratio_of(text)",
    "places": "check_place(place) is_direction(thing) check_direction(direction) check_amount(amount) check_size(size) "
              "direction_of(step) across(direction) opposite(direction) mirror_direction(direction) "
              "between_of(one, other) turn_of(one, other) order_round(directions) amount_at(direction, place) "
              "step_from(one, other) place_by(place, step) place_on(one, other, share) mean_place(places) "
              "cross_at(first, second, third) side_normal(one, other) turn_place(place) mirror_place(place) "
              "grow_place(place, size)",
    "patches": "hull_of(places) corner_patches(patch) whole_corners(patches) reach_of(patch, direction) "
               "low_of(patch, direction) breadth_of(patch, direction) touched_by(patch, direction) halves_of(patch) "
               "cut_patch(patch, direction, amount) line_patch(patch, direction, amount) common_patch(one, other) "
               "lies_in(one, other) shift_patch(patch, step) turn_patch(patch) mirror_patch(patch) "
               "grow_patch(patch, size)",
    "facts": "is_fact(thing) is_kept(fact, stone)",
    "placetext": "place_text(place) place_of(text) patch_text(patch) patch_of(text)",
    "casetext": "fact_text(fact) fact_of(text) case_text(case) case_of(text)",
    "fitting": "has_stone(case) empty_patches(case) check_case(case) full_patches(case) misfit(case, stone) "
               "check_choice(case, places) stone_of_choice(case, places) choice_in(case, stone) "
               "choice_fault(case, stone, places) corner_choices(case)",
    "quarrels": "any_stone(case) quarrels_of(case) quarrel_fault(case, facts)",
    "critical": "least_reach(patches, direction) greatest_low(patches, direction) low_places(patches, direction) "
                "high_places(patches, direction) critical_for(patches, others)",
    "rounds": "parts_at(patches, others, direction) neighbours_round(patches, others) part_lots(patches, others) "
              "parting_fault(patches, others, told) round_fault(patches, others, told)",
    "sure": "sure_of(case, place) is_sure(case, place) sure_fault(case, place, told) missed_fault(case, place, told) "
            "sure_places(case) verdict_of(case, place) farthest_stone(case, direction)",
    "suresides": "sure_sides(case) sides_fault(case, told) stones_apart(case) apart_fault(case, told)",
    "reaches": "reach_range(case, direction) stone_of_reach(case, direction, amount) least_reaching(case, direction) "
               "breadth_range(case, direction) stone_of_breadth(case, direction, amount) sure_span(case, direction)",
    "claims": "check_claim(claim) keeps_claim(stone, claim) answer_of(case, claim) answer_fault(case, claim, answer)",
    "follow": "follows(case, fact) needless_facts(case) lean_facts(case) all_fit(case, other) alike_cases(case, other) "
              "unlike_fault(case, other, unlike)",
    "kept": "check_ruled(case) check_corner(case, number) ruler_ends(case) corners_touched(case) "
            "stride_is_let(case, one, other) loss_of(case, one, other) check_kept(case, kept) kept_hull(case, kept) "
            "tight_lots(case)",
    "areas": "least_area(case) area_fault(case, least) all_least(case) greatest_area(case) loss_rows(case) "
             "rows_fault(case, rows) leaving_costs(case) least_stone(case)",
    "between": "growing_stones(case) stone_of_area(case, twice) area_verdict(case, twice) sure_area(case)",
    "meeting": "meeting(case, other) meeting_fault(case, other, told)",
    "lying": "lying_in(case, other) lying_fault(case, other, told)",
    "sums": "sure_sums(case, other) possible_sums(case, other) sum_verdict(case, other, place) "
            "sum_reach(case, other, direction) sure_hulls(case, other) possible_hulls(case, other)",
    "steps": "sure_steps(case, other) possible_steps(case, other) sure_holds(case, other) possible_holds(case, other)",
    "spaces": "space_range(case, other, direction) pair_of_space(case, other, direction, amount) "
              "square_between(one, other) distance_range(case, other) nearest_places(case, other) "
              "farthest_pair(case, other) farthest_fault(case, other, told)",
    "lines": "line_verdict(cases, direction) line_up(cases, direction) line_fault(cases, direction, told) "
             "orders_along(cases, direction)",
    "evens": "sum_patches(one, other) opposite_patch(patch) difference_range(patch, direction) is_even(patch) "
             "even_of(patch)",
    "calipers": "check_readings(readings) readings_of(stone, directions) caliper_misfit(readings, stone) "
                "caliper_quarrels(readings) even_whole(readings)",
    "newbreadth": "new_breadth(readings, direction) stone_of_new_breadth(readings, direction, breadth) span_of(patch) "
                  "span_range(readings) least_span_stone(readings) needless_readings(readings) "
                  "alike_calipers(readings, others)",
    "evenareas": "greatest_caliper_area(readings) least_even_area(readings) least_even_fault(readings, least)",
    "gaps": "least_breadth(patch) gap_range(case) least_gap(case) gap_fault(case, gap) goes_through(case, breadth)",
    "boxes": "check_box(width, height) held_at(case, low, width, height) some_box_places(case, width, height) "
             "every_box_places(case, width, height) box_verdict(case, width, height) "
             "box_fault(case, width, height, told)",
    "heights": "least_height(case, width) least_boxes(case, widths)",
    "telling": "check_directions(directions, most) check_stone(table, stone) ruler_on(stone, direction) "
               "rulers_on(stone, directions) one_stone(case) one_stone_fault(case, told) "
               "tells_wholly(table, stone, directions) telling_fault(table, stone, directions, told) "
               "least_tellers(table, stone) tellers_fault(table, stone, directions)",
    "settling": "settles(case, directions, place) settling_fault(case, directions, place, told) "
                "least_settlers(case, pool, place)",
    "liars": "lots_of_liars(case, most) liars_fault(case, most, lots)",
    "withliars": "sure_liars(case, most) sure_truths(case, most) stone_breaking(case, most, number) "
                 "verdict_with_liars(case, most, place) reaches_with_liars(case, most, direction)",
    "changes": "check_changes(case, changes) case_after(case, changes)",
    "wishes": "check_wishes(wishes) broken_wish(case, wishes) broken_fault(case, wishes, broken)",
    "mends": "find_mends(case, pool, wishes) mends_fault(case, pool, wishes, mends) find_spoilers(case, pool, wishes)",
}

GENERATORS = {"corner_choices", "neighbours_round", "tight_lots", "growing_stones", "least_boxes"}

LEADS = "shifted(self, step) turned(self) mirrored(self) grown(self, size)"

CLASSES = {
    ("patches", "Patch(corners)"): ("sides twice_area middle", "__len__ __iter__ __eq__ __contains__", ""),
    ("tables", "Table(low, high)"): ("", "__eq__", LEADS),
    ("facts", "Within(direction, amount)"): ("half", "__eq__", LEADS),
    ("facts", "Ruler(direction, amount)"): ("half", "__eq__", LEADS),
    ("facts", "Meets(patch)"): ("half", "__eq__", LEADS),
    ("cases", "Case(table, facts)"): (
        "", "__len__ __iter__ __eq__", LEADS + " patch_at(self, number) with_fact(self, fact) with_facts(self, facts) "
        "with_table(self, table) without_fact(self, number) without_facts(self, numbers)"),
    ("quarrels", "Quarrel(facts)"): ("", "__eq__", ""),
    ("rounds", "Parting(direction, ones, twos)"): ("", "__eq__", ""),
    ("rounds", "Round(entries)"): ("", "__eq__ __len__ __iter__", ""),
    ("sure", "Sure(entries)"): ("", "__eq__ __len__ __iter__", ""),
    ("sure", "Missed(direction, stone)"): ("", "__eq__", ""),
    ("sure", "Far(amount, stone)"): ("", "__eq__", ""),
    ("suresides", "Side(direction, amount, stone)"): ("", "__eq__", ""),
    ("claims", "Answer(keeping, breaking)"): ("verdict", "__eq__", ""),
    ("follow", "Unlike(which, stone)"): ("", "__eq__", ""),
    ("areas", "Least(twice, kept)"): ("", "__eq__", ""),
    ("meeting", "SurelyMeet(entries)"): ("", "__eq__", ""),
    ("meeting", "NeverMeet(direction)"): ("", "__eq__", ""),
    ("meeting", "MayMeet(direction, one, other)"): ("", "__eq__", ""),
    ("lying", "SurelyIn(rounds)"): ("", "__eq__", ""),
    ("lying", "NeverIn(number, direction)"): ("", "__eq__", ""),
    ("lying", "MayIn(inner, avoider)"): ("", "__eq__", ""),
    ("spaces", "Farthest(square, direction, one, other)"): ("", "__eq__", ""),
    ("lines", "LinedUp(stones)"): ("", "__eq__", ""),
    ("lines", "Blocked(first, second)"): ("", "__eq__", ""),
    ("calipers", "Uneven(quarrel)"): ("", "__eq__", ""),
    ("newbreadth", "Differing(which, stone)"): ("", "__eq__", ""),
    ("evenareas", "LeastEven(twice, kept)"): ("", "__eq__", ""),
    ("gaps", "Gap(square, direction, stone)"): ("", "__eq__", ""),
    ("boxes", "HoldsAll(low)"): ("", "__eq__", ""),
    ("boxes", "HoldsSome(low, stone)"): ("", "__eq__", ""),
    ("boxes", "HoldsNone(numbers)"): ("", "__eq__", ""),
    ("telling", "Single(stone, tellers)"): ("", "__eq__", ""),
    ("telling", "Several(one, other)"): ("", "__eq__", ""),
    ("settling", "Unsettled(one, other)"): ("", "__eq__", ""),
    ("wishes", "Broken(index, why)"): ("", "__eq__", ""),
    ("mends", "Mends(least, losses)"): ("needed", "__eq__", ""),
    ("mends", "Spoiler(choice, added, broken)"): ("", "__eq__", ""),
    ("book", "Book(table)"): (
        "", "__len__ __iter__", "put(self, fact) take_back(self, number) whole_now(self) sure_now(self) "
        "broken_now(self, wishes) trial(self) tried(self, call)"),
}


def signatures(text):
    """The couples of a name and its arguments in a text."""
    for part in text.replace(") ", ")\n").splitlines():
        name, _, arguments = part.partition("(")
        yield name, "(" + arguments


class Interface(unittest.TestCase):
    def test_functions(self):
        for module, text in FUNCTIONS.items():
            for name, arguments in signatures(text):
                with self.subTest(module=module, name=name):
                    told = getattr(importlib.import_module(f"feltstone.{module}"), name)
                    self.assertTrue(inspect.isfunction(told))
                    self.assertEqual((told.__module__, told.__name__), (f"feltstone.{module}", name))
                    self.assertEqual(str(inspect.signature(told)), arguments)
                    self.assertIs(inspect.isgeneratorfunction(told), name in GENERATORS)

    def test_classes(self):
        for (module, head), (properties, operators, methods) in CLASSES.items():
            (name, arguments), = signatures(head)
            with self.subTest(name=name):
                told = getattr(importlib.import_module(f"feltstone.{module}"), name)
                self.assertTrue(inspect.isclass(told))
                self.assertEqual((told.__module__, told.__name__), (f"feltstone.{module}", name))
                self.assertEqual(told.__bases__, (object,))
                self.assertEqual(str(inspect.signature(told)), arguments)
                for listed in properties.split():
                    self.assertIsInstance(vars(told)[listed], property)
                for listed in operators.split():
                    self.assertTrue(inspect.isfunction(vars(told)[listed]))
                for listed, arguments in signatures(methods):
                    self.assertEqual(str(inspect.signature(vars(told)[listed])), arguments)


if __name__ == "__main__":
    unittest.main()
