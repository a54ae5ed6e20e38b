"""[10.6] to [10.10] and [10.13] Mends and spoilers."""

import unittest
from itertools import combinations

from feltstone.cases import Case
from feltstone.changes import case_after
from feltstone.errors import BadChange, BadWish
from feltstone.mends import Mends, Spoiler, find_mends, find_spoilers, mends_fault
from feltstone.telling import Several
from feltstone.wishes import Broken, broken_fault, broken_wish
from tests.made_cases import BOX, FIVE, FOUR, NOTHING, TABLE, TOO_FAR, some_fact, twelve_facts
from tests.makers import JUNK, meets, p, patch, ruler, source, table, within
from tests.results import check_errors, check_result
from tests.test_changes import NO_CHANGES
from tests.test_wishes import ALL, NO_WISHES, is_granted, is_shown, some_wishes

# The example [10.13].
POOL = [("put", fact) for fact in FOUR] + [("put", within(-1, -1, -1))]
WISHES = [("sure", p(2, 1)), ("possible", p(0, 0))]
CALLS = (find_mends, find_spoilers, lambda *given: mends_fault(*given, None))


def all_choices(pool):
    return [choice for many in range(len(pool) + 1) for choice in combinations(range(len(pool)), many)]


def behind(case, pool, choice):
    return case_after(case, [pool[k] for k in choice])


def least_choices(case, pool, wishes):
    """All least choices by going through every choice."""
    good = [choice for choice in all_choices(pool) if all(is_granted(behind(case, pool, choice), wish) for wish in wishes)]
    return [choice for choice in good if not any(set(one) < set(choice) for one in good)], good


FACTS = FOUR + [within(1, 1, 5), ruler(1, 1, 7), ruler(1, 1, 6), meets((0, 0)), meets((4, 2)), meets((0, 2), (4, 0)), within(-1, -1, -1)]
GRANTED = [("stone",), ("sure", p(2, 1)), ("possible", p(0, 0)), ("possible", p(5, 1)), ("lacking", p(5, 5)), ("free", meets((4, 2))), ("follows", within(1, 1, 6)),
           ("follows", meets((0, 0), (0, 2))), ("barred", meets((8, 8))), ("single",)]


def some_pools(seed=961, many=40):
    """Cases with pools and wishes, some of which can be granted."""
    picks, rows = source(seed), [(NOTHING, POOL, WISHES), (TOO_FAR, [("strike", k) for k in range(5)], [("stone",), ("sure", p(2, 1))])]
    while len(rows) < many:
        case = Case(table(-5, -4, 6, 5), [some_fact(picks) for _ in range(picks.randint(0, 5))])
        pool = [("put", some_fact(picks)) if not len(case) or picks.randint(0, 2) else ("strike", picks.randrange(len(case)))
                for _ in range(picks.randint(1, 5))]
        wishes = some_wishes(case, picks)
        picks.shuffle(wishes)
        rows.append((case, pool, wishes[:picks.randint(1, 3)]))
        pool = [("put", fact) for fact in picks.sample(FACTS, 3)] + [("strike", picks.randint(0, 3))]
        rows.append((picks.choice([BOX, FIVE, TOO_FAR]), pool, picks.sample(GRANTED, picks.randint(1, 2))))
    return rows


ROWS = some_pools()


class FindMends(unittest.TestCase):
    def test_example(self):
        told = find_mends(case=NOTHING, pool=POOL, wishes=WISHES)
        self.assertIs(type(told), Mends)
        self.assertEqual(told.least, ((0, 1, 2, 3),))
        self.assertEqual(told.needed, (0, 1, 2, 3))
        self.assertEqual(len(told.losses), 30)
        self.assertEqual(find_mends(NOTHING, [list(change) for change in POOL], tuple(list(wish) for wish in WISHES)).least, told.least)

    def test_against_going_through_every_choice(self):
        seen = set()
        for case, pool, wishes in ROWS:
            told = find_mends(case, tuple(pool), wishes)
            least, good = least_choices(case, pool, wishes)
            self.assertEqual(told.least, tuple(least))
            lost = [choice for choice in all_choices(pool) if not any(set(one) <= set(choice) for one in least)]
            self.assertEqual([choice for choice, _ in told.losses], lost)
            self.assertTrue(all(type(row) is tuple and type(row[0]) is tuple for row in told.losses) and type(told.losses) is tuple)
            for choice, broken in told.losses:
                later = behind(case, pool, choice)
                self.assertIs(type(broken), Broken)
                self.assertEqual(broken.index, broken_wish(later, wishes).index)
                self.assertTrue(is_shown(later, wishes[broken.index], broken.why))
            needed = tuple(k for k in range(len(pool)) if least and all(k in choice for choice in least))
            self.assertEqual(told.needed, needed)
            self.assertTrue(all(set(needed) <= set(choice) for choice in good))
            self.assertIsNone(mends_fault(case=case, pool=pool, wishes=wishes, mends=told))
            seen.add((len(least), min(len(choice) for choice in least) if least else None))
        self.assertLessEqual({(0, None), (1, 0)}, seen)
        self.assertTrue({(1, 1), (2, 1), (1, 2)} & seen)

    def test_pools_of_one_and_of_five(self):
        one = find_mends(BOX, [("strike", 0)], [("possible", p(5, 1))])
        self.assertEqual((one.least, [choice for choice, _ in one.losses], one.needed), (((0,),), [()], (0,)))
        granted = find_mends(BOX, [("strike", 0)], [("stone",)])
        self.assertEqual((granted.least, granted.losses, granted.needed), (((),), (), ()))
        never = find_mends(BOX, [("put", FOUR[0])] * 5, [("possible", p(20, 0))])
        self.assertEqual((never.least, never.needed, len(never.losses)), ((), (), 32))
        each = find_mends(TOO_FAR, [("strike", 0), ("strike", 1), ("strike", 2), ("strike", 4), ("strike", 0)], [("stone",)])
        self.assertEqual((each.least, each.needed), (((0,), (1,), (3,), (4,)), ()))
        self.assertEqual([choice for choice, _ in each.losses], [(), (2,)])

    def test_needed_of_several(self):
        told = find_mends(TOO_FAR, [("strike", 0), ("strike", 4), ("put", within(0, 1, 1)), ("strike", 1)], [("lacking", p(0, 2)), ("stone",)])
        self.assertEqual(told.least, ((0, 2, 3), (1, 2, 3)))
        self.assertEqual(told.needed, (2, 3))
        self.assertEqual(Mends((), ()).needed, ())
        self.assertEqual(Mends(((),), ()).needed, ())
        self.assertEqual(Mends(((0, 2), (1, 2), (2, 3)), None).needed, (2,))

    def test_puts_alone_keep_what_is_good(self):
        picks, seen = source(962), set()
        wishes = [wish for wish in GRANTED if wish[0] in ("sure", "lacking", "follows", "barred", "single")]
        rows = [(NOTHING, FACTS[:5], wishes[:1]), (BOX, [meets((x, y)) for x, y in ((0, 0), (4, 0), (4, 2), (0, 2))], [("single",)])]
        for _ in range(30):
            rows.append((picks.choice([NOTHING, BOX, FIVE]), picks.sample(FACTS, 4), picks.sample(wishes, picks.randint(1, 2))))
        for case, put, wished in rows:
            pool = [("put", fact) for fact in put]
            _, good = least_choices(case, pool, wished)
            for choice in all_choices(pool):
                if any(set(one) <= set(choice) for one in good):
                    self.assertEqual(choice in good, is_granted(behind(case, pool, choice), ("stone",)))
                    seen.add((choice in good, wished[0][0]))
        self.assertGreater(len(seen), 7)

    def test_errors(self):
        rows = []
        for call in CALLS:
            for wishes in (WISHES, [], None):
                for pool in JUNK + [1, (), [], POOL + POOL[:1], tuple(POOL * 2), {0: POOL[0]}, (change for change in POOL), [None] * 6]:
                    rows.append((lambda call=call, pool=pool, wishes=wishes: call(BOX, pool, wishes), BadChange, 0, "pool"))
                for wrong in NO_CHANGES:
                    rows.append((lambda call=call, wrong=wrong, wishes=wishes: call(BOX, [("strike", 0), wrong, None], wishes), BadChange, 1, "change"))
                rows += [(lambda call=call, wishes=wishes: call(BOX, [("strike", 0), ("put", None)], wishes), BadChange, 1, "fact"),
                         (lambda call=call, wishes=wishes: call(BOX, [("strike", 0), ("strike", 4)], wishes), BadChange, 1, "number"),
                         (lambda call=call, wishes=wishes: call(BOX, [("strike", True)], wishes), BadChange, 0, "number"),
                         (lambda call=call, wishes=wishes: call(Case(TABLE, FOUR * 2), POOL, wishes), BadChange, 4, "full")]
            rows += [(lambda call=call, wishes=wishes: call(BOX, POOL, wishes), BadWish, 0) for wishes in JUNK + [(), ALL[:6] + ALL[:1]]]
            rows += [(lambda call=call, wish=wish: call(BOX, POOL, [ALL[0], wish, None]), BadWish, 1) for wish in NO_WISHES]
        check_errors(self, rows)


class MendsFault(unittest.TestCase):
    RIGHT = find_mends(NOTHING, POOL, WISHES)
    # All least choices of this pool are of one change.
    EACH_POOL = [("strike", 0), ("strike", 1), ("strike", 2), ("strike", 4)]
    EACH = find_mends(TOO_FAR, EACH_POOL, [("stone",)])

    def fault(self, least, losses):
        return mends_fault(NOTHING, POOL, WISHES, Mends(least, losses))

    def each(self, least, losses=EACH.losses):
        return mends_fault(TOO_FAR, self.EACH_POOL, [("stone",)], Mends(least, losses))

    def test_right_ones(self):
        self.assertIsNone(self.fault(self.RIGHT.least, self.RIGHT.losses))
        self.assertIsNone(self.each(((0,), (1,), (3,))))
        # Any wish that is not granted will do behind a choice of losses.
        losses = tuple((choice, Broken(1, None)) if choice == (4,) else (choice, broken) for choice, broken in self.RIGHT.losses)
        self.assertIsNone(self.fault(self.RIGHT.least, losses))
        self.assertIsNone(mends_fault(BOX, [("put", FOUR[0])], ALL[:1], Mends(((),), ())))

    def test_mends(self):
        for thing in JUNK + [(self.RIGHT.least, self.RIGHT.losses), Spoiler((), 0, None), Several(self.RIGHT.least, self.RIGHT.losses), Mends]:
            self.assertEqual(mends_fault(NOTHING, POOL, WISHES, thing), "mends")
        right = self.RIGHT
        for least in JUNK + [list(right.least), ([0, 1, 2, 3],), (0, 1, 2, 3), ((0, 1, 3, 2),), ((0, 1, 2, 3), (0, 1, 2, 3)), ((0, 1, 2, 5),), ((-1, 0),), ((0, 0, 1),),
                            ((False, 1, 2, 3),), ((0, True, 2, 3),), ((0, 1.0, 2, 3),), ("0123",), ((0, 1, 2, None),), (None,), ((0, 1, 2, 3), (0,))]:
            self.assertEqual(self.fault(least, right.losses), "mends")
        losses = right.losses
        for wrong in JUNK + [list(losses), losses[::-1], losses[:3] + losses[2:], losses + ((3,),), tuple(choice for choice, _ in losses), ((*losses[0], None),),
                             losses[:1] + (((5,), losses[1][1]),) + losses[2:], losses[:1] + (([0], losses[1][1]),) + losses[2:], losses[1:] + losses[:1],
                             losses[:2] + (((True,), losses[2][1]),) + losses[3:], (None,), (losses[0][0],), ((None, None),), "ab", ("ab",)]:
            self.assertEqual(self.fault(right.least, wrong), "mends")

    def test_within(self):
        right = self.RIGHT
        self.assertEqual(self.fault(((0, 1, 2, 3), (0, 1, 2, 3, 4)), right.losses), "within")
        self.assertEqual(self.fault(((), (0, 1, 2, 3)), ()), "within")
        self.assertEqual(self.fault(((0, 1, 2),), right.losses), "within")
        self.assertEqual(self.fault(right.least, right.losses + ((((0, 1, 2, 3, 4)), None),)), "within")
        self.assertEqual(self.fault(((4,),), right.losses), "within")
        self.assertEqual(self.each(((0,), (1,), (3,), (0, 2))), "within")

    def test_lacking(self):
        right = self.RIGHT
        for k in (0, 1, 7, 29):
            self.assertEqual(self.fault(right.least, right.losses[:k] + right.losses[k + 1:]), "lacking")
        self.assertEqual(self.fault((), right.losses), "lacking")
        self.assertEqual(self.fault((), ()), "lacking")
        self.assertEqual(self.each(((0,), (1,))), "lacking")
        self.assertEqual(self.each(((3,), (0, 1))), "lacking")

    def test_good(self):
        lost = {choice: broken for choice, broken in self.RIGHT.losses}
        kept = tuple(row for row in self.RIGHT.losses if not {0, 1} <= set(row[0]))
        self.assertEqual(self.fault(((0, 1),), kept), "good")
        self.assertEqual(self.fault(((0, 1),), tuple((choice, None) for choice, _ in kept)), "good")
        self.assertEqual(self.fault(((),), ()), "good")
        self.assertEqual(self.each(((0,), (1,), (2,), (3,)), self.EACH.losses[:1]), "good")
        self.assertEqual(len(lost), 30)

    def test_broken(self):
        right = self.RIGHT
        for k in (0, 3, 29):
            for wrong in JUNK + [Broken(2, None), Broken(0, None), Broken(1, patch((0, 0))), Broken(0, TABLE.ground), right.losses[k][1].why]:
                losses = right.losses[:k] + ((right.losses[k][0], wrong),) + right.losses[k + 1:]
                self.assertEqual(self.fault(right.least, losses), "broken")
        # Not least, but not told as least either: what is good behind a choice of losses shows nothing.
        self.assertEqual(self.fault((), right.losses[:25] + tuple(((choice), Broken(0, None)) for choice in [
            choice for choice in all_choices(POOL) if choice not in [row[0] for row in right.losses[:25]]])), "broken")

    def test_every_couple_of_rows(self):
        for case, pool, wishes in ROWS:
            right = find_mends(case, pool, wishes)
            for choice, broken in right.losses:
                self.assertIsNone(broken_fault(behind(case, pool, choice), wishes, broken))
            for k in range(len(right.least)):
                told = mends_fault(case, pool, wishes, Mends(right.least[:k] + right.least[k + 1:], right.losses))
                self.assertEqual(told, "lacking")


class Spoilers(unittest.TestCase):
    def test_example(self):
        told = find_spoilers(case=NOTHING, pool=POOL, wishes=WISHES)
        self.assertEqual(told, (Spoiler((0, 1, 2, 3), 4, Broken(1, None)),))

    def test_against_going_through_every_choice(self):
        many = 0
        for case, pool, wishes in ROWS:
            told = find_spoilers(case, pool, tuple(wishes))
            self.assertIs(type(told), tuple)
            least, good = least_choices(case, pool, wishes)
            due = [(choice, k) for choice in least for k in range(len(pool)) if k not in choice and tuple(sorted([*choice, k])) not in good]
            self.assertEqual([(spoiler.choice, spoiler.added) for spoiler in told], due)
            for spoiler in told:
                self.assertIs(type(spoiler), Spoiler)
                later = behind(case, pool, sorted([*spoiler.choice, spoiler.added]))
                self.assertEqual(spoiler.broken.index, broken_wish(later, wishes).index)
                self.assertIsNone(broken_fault(later, wishes, spoiler.broken))
            many += len(told)
        self.assertGreater(many, 10)

    def test_none(self):
        self.assertEqual(find_spoilers(BOX, [("put", FOUR[0])], [("stone",)]), ())
        self.assertEqual(find_spoilers(BOX, [("put", FOUR[0])], [("possible", p(9, 9))]), ())

    def test_several_least_choices(self):
        told = find_spoilers(TOO_FAR, [("strike", 0), ("strike", 4), ("put", ruler(1, 1, 30))], [("stone",)])
        self.assertEqual([(one.choice, one.added) for one in told], [((0,), 2), ((1,), 2)])
        told = find_spoilers(FIVE, [("put", meets((20, 0))), ("strike", 0), ("put", within(1, 0, -30))], [("stone",)])
        self.assertEqual([(one.choice, one.added) for one in told], [((), 0), ((), 2)])

    def test_they_are_results(self):
        check_result(self, Spoiler, "choice", "added", "broken")
        check_result(self, Mends, "least", "losses")


class ManyFigures(unittest.TestCase):
    def test_twelve_facts(self):
        for figures, every in ((60, 1), (300, 0), (150, 3)):
            case = twelve_facts(figures, every)
            few, pool = case.without_facts((8, 9, 10, 11)), [("put", fact) for fact in case.facts[8:]]
            wishes = [("stone",), ("possible", case.whole.corners[0]), ("follows", case.facts[9]), ("follows", case.facts[11])]
            told = find_mends(few, pool, wishes)
            self.assertEqual(set(told.least[0]) | {1, 3}, {1, 3})
            self.assertIsNone(mends_fault(few, pool, wishes, told))
            self.assertEqual(find_spoilers(few, pool, wishes), ())


if __name__ == "__main__":
    unittest.main()
