"""[4.5] to [4.10] and [4.13] Claims: whether all stones that fit keep them, some, or none."""

import unittest
from fractions import Fraction

from feltstone.cases import Case
from feltstone.claims import Answer, answer_fault, answer_of, check_claim, keeps_claim
from feltstone.errors import BadClaim, NoStones
from feltstone.facts import Meets, Ruler, Within
from feltstone.patches import Patch, common_patch, hull_of
from feltstone.quarrels import Quarrel
from feltstone.reaches import reach_range, sure_span
from feltstone.sure import Far, sure_places
from tests.made_cases import (
    BOX, FIVE, NOTHING, SIDES, TABLE, can_be_parted, cases_with_stones, fits, keeps, lot_of, meet, place_in, some_fact,
    stones_in, twelve_facts,
)
from tests.makers import (
    HEXAGON, JUNK, POINT, SHAPES, SQUARE, STRETCH, TRIANGLE, amount, bow, holds, meets, number, p, patch, r, ruler,
    some_places, source, within,
)
from tests.test_critical import NO_WAYS
from tests.test_reaches import NO_AMOUNTS, WAYS, low, reach
from tests.test_sure import NO_STONES

NEAR = Fraction(1, 10 ** 30)
ROUND = hull_of([p(Fraction(8 * (1 - k * k), 1 + k * k), Fraction(16 * k, 1 + k * k)) for k in range(-9, 10)])
FACTS = [within(1, 0, 4), ruler(0, 1, 2), meets((1, 1), (2, 2))]
CLAIMS = [("crosses", (1, 2), r(3)), ("meets", SQUARE), ("holds", POINT), ("inside", HEXAGON), ("fact", FACTS[0]),
          ("fact", FACTS[1]), ("fact", FACTS[2]), ("meets", ROUND), ("inside", patch((-90, -90), (90, -90), (0, 90)))]


def is_kept(stone, claim):
    """Whether a stone keeps a claim, by other means than the program's."""
    word, thing = claim[0], claim[1]
    if word == "crosses":
        return low(stone, thing) <= number(claim[2]) <= reach(stone, thing)
    if word == "meets":
        return meet(stone.corners, thing.corners)
    if word == "holds":
        return all(holds(stone.corners, corner) for corner in thing.corners)
    if word == "inside":
        return all(holds(thing.corners, corner) for corner in stone.corners)
    return keeps(stone, thing)


def some_claims(case, picks):
    """Claims of each sort, some of them at the edge between two verdicts."""
    claims = []
    for way in picks.sample(WAYS, 3):
        span, ends = sure_span(case, way), reach_range(case, way)
        at = [number(end) for end in (span or ()) + ends] + [low(case.whole, way), Fraction(picks.randint(-9, 9), 2)]
        for told in picks.sample(at, 3):
            for near in (0, NEAR, -NEAR):
                claims += [("crosses", way, r(told + near)), ("fact", Within(way, r(told + near))),
                           ("fact", Ruler(way, r(told + near)))]
    patches = [hull_of(some_places(picks, picks.randint(1, 5), 5)) for _ in range(3)] + picks.sample(lot_of(case), 1)
    patches += [hull_of([place_in(one, picks) for one in lot_of(case)]), case.whole, patch((30, 30)), case.table.ground]
    patches += [sure_places(case)] if sure_places(case) else []
    for one in patches:
        claims += [(word, one) for word in ("meets", "holds", "inside")]
        if len(one) <= 16:
            claims.append(("fact", Meets(one)))
    return claims + [("fact", some_fact(picks))]


def verdict(case, claim):
    """The verdict by the words of [4.8] and [4.9]."""
    word, thing, lot, whole = claim[0], claim[1], lot_of(case), case.whole
    if word == "crosses":
        span, at = sure_span(case, thing), number(claim[2])
        if span and number(span[0]) <= at <= number(span[1]):
            return "always"
        return "maybe" if low(whole, thing) <= at <= reach(whole, thing) else "never"
    if word == "meets" or isinstance(thing, Meets):
        one = thing if word == "meets" else thing.patch
        if not meet(one.corners, whole.corners):
            return "never"
        corners = [Patch([corner]) for corner in common_patch(one, whole).corners]
        return "maybe" if can_be_parted(lot, corners) else "always"
    if word == "holds":
        sure = sure_places(case)
        if sure and all(holds(sure.corners, corner) for corner in thing.corners):
            return "always"
        return "maybe" if all(holds(whole.corners, corner) for corner in thing.corners) else "never"
    if word == "inside":
        if all(holds(thing.corners, corner) for corner in whole.corners):
            return "always"
        return "maybe" if all(meet(one.corners, thing.corners) for one in lot) else "never"
    ends, at = [number(end) for end in reach_range(case, thing.direction)], number(thing.amount)
    if isinstance(thing, Within):
        return "always" if ends[1] <= at else "never" if ends[0] > at else "maybe"
    return "always" if ends == [at, at] else "maybe" if ends[0] <= at <= ends[1] else "never"


class CheckClaim(unittest.TestCase):
    def refused(self, claim, what):
        for call in (check_claim, lambda claim: keeps_claim(SQUARE, claim), lambda claim: answer_of(BOX, claim),
                     lambda claim: answer_of(NO_STONES[0], claim),
                     lambda claim: answer_fault(BOX, claim, Answer(None, None)),
                     lambda claim: answer_fault(NO_STONES[0], claim, Answer(None, None))):
            with self.assertRaises(BadClaim) as caught:
                call(claim)
            self.assertEqual(caught.exception.what, what)

    def test_right_ones(self):
        for claim in CLAIMS:
            for told in (claim, list(claim)):
                kept = check_claim(claim=told)
                self.assertIs(type(kept), tuple)
                self.assertEqual(kept, claim)
        kept = check_claim(["crosses", [3, -2], r(1)])
        self.assertEqual(kept, ("crosses", (3, -2), r(1)))
        self.assertIs(type(kept[1]), tuple)
        given = ["crosses", [3, -2], r(1)]
        check_claim(given)
        self.assertEqual(given, ["crosses", [3, -2], r(1)])

    def test_claim(self):
        for thing in JUNK + [SQUARE, (), [], iter(CLAIMS[1]), {"meets": SQUARE}, "meets", "crosses", Answer("meets", SQUARE)]:
            self.refused(thing, "claim")
        for word in JUNK + ["Meets", "MEETS", "meet", " meets", "crosses ", "within", ["meets"], ("meets",), SQUARE, 0, b"meets"]:
            self.refused((word, SQUARE), "claim")
            self.refused([word, (1, 0), r(1)], "claim")
        for claim in CLAIMS:
            self.refused(claim[:-1], "claim")
            self.refused((*claim, None), "claim")
            self.refused((*claim, *claim), "claim")
            self.refused(claim[:1], "claim")
        self.refused(("crosses", ((1, 2), r(3))), "claim")
        self.refused(("meets", (1, 2), r(3)), "claim")

    def test_direction_ahead_of_amount(self):
        for way in NO_WAYS:
            for at in (r(1), None):
                self.refused(("crosses", way, at), "direction")

    def test_amount(self):
        for at in NO_AMOUNTS:
            self.refused(("crosses", (1, 0), at), "amount")
            self.refused(["crosses", [1, 0], at], "amount")

    def test_patch(self):
        for word in ("meets", "holds", "inside"):
            for thing in JUNK + [SQUARE.corners, list(SQUARE.corners), [SQUARE], BOX, meets((0, 0)), p(1, 2)]:
                self.refused((word, thing), "patch")

    def test_fact(self):
        for thing in JUNK + [SQUARE, BOX, [FACTS[0]], ((1, 0), r(4)), Quarrel((1,)), "within 1,0 4"]:
            self.refused(("fact", thing), "fact")


class KeepsClaim(unittest.TestCase):
    def test_wholly(self):
        picks = source(321)
        for case in cases_with_stones(15, 322):
            for claim in some_claims(case, picks):
                for stone in SHAPES + [case.whole]:
                    self.assertIs(keeps_claim(stone=stone, claim=claim), is_kept(stone, claim))

    def test_at_the_edges(self):
        rows = [
            (("crosses", (1, 0), r(0)), True), (("crosses", (1, 0), r(2)), True), (("crosses", (1, 0), r(-NEAR)), False),
            (("crosses", [1, 0], r(2 + NEAR)), False), (("meets", patch((2, 2), (9, 9))), True), (("meets", patch((3, 3))), False),
            (("holds", SQUARE), True), (("holds", patch((0, 0))), True), (("holds", patch((0, 0), (3, 0))), False),
            (("inside", SQUARE), True), (("inside", TRIANGLE), False), (("inside", patch((0, 0), (4, 0), (0, 4))), True),
            (("fact", within(1, 1, 4)), True), (("fact", Within((1, 1), r(4 - NEAR))), False), (("fact", within(1, 1, 9)), True),
            (("fact", ruler(1, 1, 4)), True), (("fact", ruler(1, 1, 9)), False), (("fact", meets((2, 2), (5, 5))), True),
        ]
        for claim, told in rows:
            self.assertIs(keeps_claim(SQUARE, claim), told)
            self.assertIs(keeps_claim(SQUARE, list(claim)), told)


class AnswerOf(unittest.TestCase):
    def right(self, case, claim, told):
        self.assertIs(type(told), Answer)
        due = verdict(case, claim)
        self.assertEqual(told.verdict, due, claim)
        self.assertIs(told.keeping is None, due == "never")
        self.assertIs(told.breaking is None, due == "always")
        for stone, kept in ((told.keeping, True), (told.breaking, False)):
            if stone is not None:
                self.assertIs(type(stone), Patch)
                self.assertTrue(fits(case, stone))
                self.assertIs(is_kept(stone, claim), kept)

    def test_wholly(self):
        picks, seen = source(323), set()
        for case in cases_with_stones(45, 324) + [FIVE, SIDES, Case(TABLE, [meets((1, 2)), meets((4, 2))])]:
            stones = stones_in(case, picks, 3)
            for claim in some_claims(case, picks):
                told = answer_of(case=case, claim=claim)
                self.right(case, claim, told)
                self.assertIsNone(answer_fault(case=case, claim=claim, answer=told))
                seen.add((claim[0], type(claim[1]), told.verdict))
                for stone in stones:
                    self.assertTrue(told.verdict == "maybe" or is_kept(stone, claim) is (told.verdict == "always"))
        for word, kind in (("crosses", tuple), ("meets", Patch), ("holds", Patch), ("inside", Patch), ("fact", Within),
                           ("fact", Ruler), ("fact", Meets)):
            for due in ("always", "maybe", "never"):
                self.assertIn((word, kind, due), seen)

    def test_example(self):
        for place, due in ((("2", 1), "always"), ((1, 1), "maybe"), ((4, 2), "never")):
            self.assertEqual(answer_of(FIVE, ("holds", patch(place))).verdict, due)
        self.assertEqual(answer_of(FIVE, ["crosses", [1, 1], r(2)]).verdict, "always")
        self.assertEqual(answer_of(FIVE, ("crosses", (1, 1), r(5))).verdict, "always")
        self.assertEqual(answer_of(FIVE, ("fact", ruler(1, 1, 5))).verdict, "always")

    def test_edges_of_crosses(self):
        rows = [(0, "always"), (4, "always"), (-NEAR, "never"), (4 + NEAR, "never"), (2, "always")]
        for at, due in rows:
            self.assertEqual(answer_of(BOX, ("crosses", (1, 0), r(at))).verdict, due)
        rows = [(2, "always"), (2 - NEAR, "maybe"), (5, "always"), (5 + NEAR, "never"), (0, "maybe"), (-NEAR, "never")]
        for at, due in rows:
            self.assertEqual(answer_of(FIVE, ("crosses", (1, 1), r(at))).verdict, due)
        between = Case(TABLE, [meets((0, 0), (0, 1)), meets((5, 4), (5, 9))])
        for at, due in ((1, "always"), (4, "always"), (1 - NEAR, "maybe"), (4 + NEAR, "maybe"), (9, "maybe"), (9 + NEAR, "never")):
            self.assertEqual(answer_of(between, ("crosses", (0, 1), r(at))).verdict, due)

    def test_edges_of_facts(self):
        rows = [(within, 7, "always"), (within, 7 - NEAR, "maybe"), (within, 6, "maybe"), (within, 6 - NEAR, "never"),
                (ruler, 7, "maybe"), (ruler, 6, "maybe"), (ruler, 7 + NEAR, "never"), (ruler, 6 - NEAR, "never")]
        for make, at, due in rows:
            self.assertEqual(answer_of(FIVE, ("fact", make(1, 2, at))).verdict, due)
        for at, due in ((5, "always"), (5 + NEAR, "never"), (5 - NEAR, "never")):
            self.assertEqual(answer_of(FIVE, ("fact", ruler(1, 1, at))).verdict, due)

    def test_edges_of_patches(self):
        rows = [
            ("meets", patch((4, 0), (4, 2)), "always"), ("meets", patch((4, 0), (4, 2 - NEAR)), "maybe"),
            ("meets", patch((4 + NEAR, 0), (5, 2)), "never"), ("meets", patch((4, 2), (9, 9)), "maybe"),
            ("meets", patch((-1, 0), (9, 0)), "always"), ("meets", patch((-9, -9), (9, -9), (9, 9), (-9, 9)), "always"),
            ("holds", patch((2, 1)), "always"), ("holds", patch((2, 1 + NEAR)), "maybe"), ("holds", BOX.whole, "maybe"),
            ("holds", patch((0, 0), (4, 2 + NEAR)), "never"), ("holds", patch((2, 1), (4, 2)), "maybe"),
            ("inside", BOX.whole, "always"), ("inside", patch((0, NEAR), (4, NEAR), (4, 2), (0, 2)), "never"),
            ("inside", patch((0, 0), (4, 2)), "maybe"), ("inside", patch((0, 0), (4 - NEAR, 2)), "never"),
            ("inside", patch((0, 0), (4, 0), (4, 2), (NEAR, 2), (0, 1)), "maybe"),
        ]
        for word, one, due in rows:
            self.assertEqual(answer_of(BOX, (word, one)).verdict, due, (word, one.corners))
        self.assertEqual(answer_of(BOX, ("fact", meets((4, 0), (4, 2)))).verdict, "always")

    def test_patches_off_the_table_and_of_many_corners(self):
        self.assertGreater(len(ROUND), 16)
        far = patch((-90, -90), (90, -90), (90, 90))
        for case in (BOX, FIVE, NOTHING, SIDES):
            for one in (ROUND, far, bow(40), patch((-90, 0), (90, 0)), patch((50, 50))):
                for word in ("meets", "holds", "inside"):
                    self.right(case, (word, one), answer_of(case, (word, one)))
        self.assertEqual(answer_of(BOX, ("inside", ROUND)).verdict, "always")
        self.assertEqual(answer_of(BOX, ("meets", bow(40))).verdict, "always")

    def test_a_fact_kept_by_none_leaves_no_stone(self):
        picks = source(325)
        for case in cases_with_stones(40, 326):
            for _ in range(3):
                fact = some_fact(picks)
                never = answer_of(case, ("fact", fact)).verdict == "never"
                self.assertIs(never, None in lot_of(case.with_fact(fact)) if len(case) < 12 else never)

    def test_led_along(self):
        picks = source(327)
        for case in cases_with_stones(10, 328):
            for claim in some_claims(case, picks):
                if claim[0] == "fact":
                    turned = ("fact", claim[1].turned())
                elif claim[0] == "crosses":
                    turned = ("crosses", (-claim[1][1], claim[1][0]), claim[2])
                else:
                    turned = (claim[0], hull_of([((-y[0], y[1]), x) for x, y in claim[1].corners]))
                self.assertEqual(answer_of(case.turned(), turned).verdict, answer_of(case, claim).verdict)

    def test_no_stones(self):
        for case in NO_STONES:
            for claim in CLAIMS:
                with self.assertRaises(NoStones):
                    answer_of(case, claim)
                with self.assertRaises(NoStones):
                    answer_fault(case, claim, Answer(None, None))


class AnswerFault(unittest.TestCase):
    ALWAYS = ("crosses", (1, 0), r(2))
    MAYBE = ("meets", patch((4, 2)))
    NEVER = ("holds", patch((9, 9)))
    STRETCH = patch((0, 0), (4, 2))
    OTHER = patch((0, 2), (4, 0))

    def told(self, claim, keeping, breaking):
        return answer_fault(BOX, claim, Answer(keeping, breaking))

    def test_right_ones(self):
        self.assertIsNone(self.told(self.ALWAYS, self.STRETCH, None))
        self.assertIsNone(self.told(self.MAYBE, self.STRETCH, self.OTHER))
        self.assertIsNone(self.told(self.NEVER, None, self.OTHER))
        self.assertIsNone(self.told(list(self.MAYBE), BOX.whole, self.OTHER))

    def test_lacking(self):
        self.assertEqual(self.told(self.ALWAYS, None, None), ("keeping", "lacking"))
        self.assertEqual(self.told(self.MAYBE, None, None), ("keeping", "lacking"))
        self.assertEqual(self.told(self.MAYBE, self.STRETCH, None), ("breaking", "lacking"))
        self.assertEqual(self.told(self.NEVER, None, None), ("breaking", "lacking"))

    def test_fit(self):
        for wrong in (SQUARE, POINT, STRETCH, patch((0, 0), (4, 0), (4, 3)), patch((-20, 0), (4, 2))):
            self.assertEqual(self.told(self.ALWAYS, wrong, None), ("keeping", "fit"))
            self.assertEqual(self.told(self.MAYBE, wrong, wrong), ("keeping", "fit"))
            self.assertEqual(self.told(self.MAYBE, self.STRETCH, wrong), ("breaking", "fit"))
            # A wrong stone where there is none at all is one that does not fit, too.
            self.assertEqual(self.told(self.NEVER, wrong, None), ("keeping", "fit"))
            self.assertEqual(self.told(self.ALWAYS, self.STRETCH, wrong), ("breaking", "fit"))

    def test_wrong(self):
        self.assertEqual(self.told(self.MAYBE, self.OTHER, self.STRETCH), ("keeping", "wrong"))
        self.assertEqual(self.told(self.MAYBE, self.STRETCH, self.STRETCH), ("breaking", "wrong"))
        self.assertEqual(self.told(self.ALWAYS, self.STRETCH, self.OTHER), ("breaking", "wrong"))
        self.assertEqual(self.told(self.NEVER, self.STRETCH, self.STRETCH), ("keeping", "wrong"))
        self.assertEqual(self.told(self.NEVER, self.STRETCH, None), ("keeping", "wrong"))

    def test_keeping_comes_first(self):
        self.assertEqual(self.told(self.MAYBE, None, SQUARE), ("keeping", "lacking"))
        self.assertEqual(self.told(self.MAYBE, self.OTHER, None), ("keeping", "wrong"))
        self.assertEqual(self.told(self.MAYBE, SQUARE, None), ("keeping", "fit"))


class Results(unittest.TestCase):
    def test_answer(self):
        for keeping, breaking, due in ((1, None, "always"), (None, 2, "never"), (1, 2, "maybe"), (None, None, "always")):
            told = Answer(keeping=keeping, breaking=breaking)
            self.assertEqual((told.keeping, told.breaking, told.verdict), (keeping, breaking, due))
            self.assertTrue(told == Answer(keeping, breaking))
            self.assertFalse(told != Answer(keeping, breaking))
        told = Answer(SQUARE, None)
        for other in (Answer(None, SQUARE), Answer(SQUARE, SQUARE), Answer(STRETCH, None), Far(SQUARE, None), None, "always"):
            self.assertFalse(told == other)
            self.assertTrue(told != other)
        for thing in JUNK:
            self.assertIs(Answer(thing, 1).keeping, thing)
            self.assertIs(Answer(1, thing).breaking, thing)


class ManyFigures(unittest.TestCase):
    def test_twelve_facts(self):
        for figures, every in ((60, 0), (60, 1), (200, 3)):
            case = twelve_facts(figures, every)
            way = (10 ** (figures - 1) + 1, 3)
            at = r(amount(way, case.whole.middle))
            for claim in [("crosses", way, at), ("fact", Within(way, at)), ("fact", Ruler(way, at)), ("meets", ROUND),
                          ("inside", ROUND), ("holds", case.patches[1][1]), ("meets", case.patches[-1][1])]:
                told = answer_of(case, claim)
                self.assertIsNone(answer_fault(case, claim, told))
                self.assertTrue(told.keeping is None or is_kept(told.keeping, claim))
                self.assertFalse(told.breaking is not None and is_kept(told.breaking, claim))


if __name__ == "__main__":
    unittest.main()
