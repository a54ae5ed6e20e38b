"""[3.2] to [3.5] Directions that part two lots, and rounds that show that none does."""

import unittest
from fractions import Fraction
from itertools import islice, product

from feltstone.errors import BadDirection, BadLots
from feltstone.patches import hull_of, mirror_patch, turn_patch
from feltstone.rounds import (
    Parting, Round, neighbours_round, part_lots, parting_fault, parts_at, round_fault,
)
from tests.made_cases import (
    are_parted, can_be_parted, critical, greatest_least, least_greatest, round_key, some_lots, ways_between,
)
from tests.makers import DIRECTIONS, JUNK, POINT, SHAPES, SQUARE, STRETCH, amount, holds, p, patch, ps, r, source
from tests.test_critical import NO_LOTS, NO_WAYS

# A point in the midst of three others: no direction parts the three and the one.
THREE = [patch((-2, -1)), patch((2, -1)), patch((0, 2))]
MIDST = [patch((0, 0))]
# The second lot touches the first along a line; only along (1, 1) and one way are no places apart.
BEYOND = [patch((0, 2), (2, 0), (2, 2))]
BELOW = [patch((0, 0), (2, 0), (0, 2))]

COUPLES = [
    (THREE, MIDST), (MIDST, THREE), (THREE, THREE), (MIDST, MIDST), (BEYOND, BELOW), (BELOW, BEYOND), (SHAPES, SHAPES),
    ([SQUARE], [SQUARE]), ([POINT], [POINT]), ([STRETCH], [STRETCH]), ([POINT, POINT], [POINT]), ([SQUARE], [patch((9, 9))]),
    ([patch((0, 0)), patch((4, 0))], [patch((2, 0))]), ([patch((0, 0)), patch((4, 0))], [patch((5, 0))]),
    ([patch((0, 0)), patch((4, 0))], [patch((4, 0))]), ([patch((0, 0), (4, 0))], [patch((4, 0), (6, 0))]),
    ([patch((0, 0)), patch((4, 4))], [patch((0, 4)), patch((4, 0))]),
    ([patch((0, 0), (0, 4)), patch((4, 0), (4, 4))], [patch((2, 2))]),
    ([patch((0, 0), (4, 0)), patch((0, 0), (0, 4)), patch((0, 4), (4, 0))], [patch((1, 1))]),
    ([patch((0, 0), (4, 0)), patch((0, 2), (4, 2)), patch((0, 0), (0, 2)), patch((4, 0), (4, 2))], [patch((2, 1))]),
    ([patch((0, 0), (2, 0), (2, 2), (0, 2))], [patch((2, 0), (4, 0), (4, 2), (2, 2))]),
    ([patch((0, 0), (2, 0), (2, 2), (0, 2))], [patch((2, 2), (4, 2), (4, 4), (2, 4))]),
]


def couples():
    return COUPLES + list(some_lots(171, 250)) + list(some_lots(172, 60, 1)) + list(some_lots(173, 20, 5, 9))


def is_parting(patches, others, told):
    """Whether a Parting is right, by other means than the judge's."""
    if type(told) is not Parting or not are_parted(patches, others, told.direction):
        return False
    for lot, places in ((patches, told.ones), (others, told.twos)):
        if type(places) is not tuple or len(places) != len(lot):
            return False
        if not all(holds(one.corners, place) for one, place in zip(lot, places)):
            return False
    ones = [amount(told.direction, place) for place in told.ones]
    return max(ones) < min(amount(told.direction, place) for place in told.twos)


def is_round(patches, others, told):
    """Whether a Round is right, by other means than the judge's."""
    if type(told) is not Round or type(told.entries) is not tuple or len(told.entries) < 3:
        return False
    ways = [entry[0] for entry in told.entries]
    keys = [round_key(way) for way in ways]
    turns = [(behind - key) % 4 for key, behind in zip(keys, keys[1:] + keys[:1])]
    crosses = [one[0] * two[1] - one[1] * two[0] for one, two in zip(ways, ways[1:] + ways[:1])]
    if sum(turns) != 4 or min(crosses) <= 0:
        return False
    for k, (way, index, other) in enumerate(told.entries):
        for along in (way, ways[(k + 1) % len(ways)]):
            low = greatest_least([patches[index]], along)
            if low < least_greatest([others[other]], along):
                return False
    return True


class Parts(unittest.TestCase):
    def test_against_all_places(self):
        for one, two in couples()[:150]:
            for way in DIRECTIONS:
                self.assertIs(parts_at(patches=one, others=two, direction=way), are_parted(one, two, way))

    def test_below_and_not_equal(self):
        one, two = [patch((0, 0), (3, 0))], [patch((-5, 0), (0, 0))]
        self.assertIs(parts_at(one, two, (1, 0)), False)
        self.assertIs(parts_at(one, two, (0, 1)), False)
        self.assertIs(parts_at(one, [patch((-5, 0), ("1/1000", 0))], (1, 0)), True)
        self.assertIs(parts_at(two, one, (1, 0)), True)

    def test_a_place_can_be_chosen_in_each_patch(self):
        for one, two in some_lots(174, 40, 2, 2):
            for way in DIRECTIONS[:8]:
                chosen = any(
                    max(amount(way, place) for place in ones) < min(amount(way, place) for place in twos)
                    for ones in product(*[lot.corners for lot in one]) for twos in product(*[lot.corners for lot in two])
                )
                self.assertIs(parts_at(one, two, list(way)), chosen)

    def test_errors(self):
        for lot in NO_LOTS:
            for first, second, what in ((lot, [SQUARE], "patches"), (lot, lot, "patches"), ([SQUARE], lot, "others")):
                for way in ((1, 0), None):
                    with self.assertRaises(BadLots) as caught:
                        parts_at(first, second, way)
                    self.assertEqual(caught.exception.what, what)
        for way in NO_WAYS:
            with self.assertRaises(BadDirection):
                parts_at([SQUARE], [SQUARE], way)


class Neighbours(unittest.TestCase):
    def test_against_all_places(self):
        for one, two in couples()[:120]:
            ways = critical(one, two)
            told = [(way, behind, are_parted(one, two, middle))
                    for way, behind, middle in zip(ways, ways[1:] + ways[:1], ways_between(one, two))]
            self.assertEqual(list(neighbours_round(patches=one, others=two)), told)

    def test_kinds(self):
        told = list(neighbours_round(THREE, MIDST))
        self.assertTrue(all(type(triple) is tuple and type(triple[2]) is bool for triple in told))
        self.assertTrue(all(type(way) is tuple for triple in told for way in triple[:2]))
        self.assertEqual(told[-1][1], (1, 0))
        self.assertFalse(any(truth for _, _, truth in told))
        self.assertEqual([truth for _, _, truth in neighbours_round([patch((0, 0))], [patch((1, 0))])],
                         [True, False, False, True])

    def test_truth_can_differ_at_the_critical_direction_itself(self):
        told = list(neighbours_round(BEYOND, BELOW))
        self.assertIs(parts_at(BEYOND, BELOW, (1, 1)), False)
        self.assertEqual({truth for way, behind, truth in told if (1, 1) in (way, behind)}, {True})

    def test_errors(self):
        for lot in NO_LOTS:
            for first, second, what in ((lot, [SQUARE], "patches"), (lot, lot, "patches"), ([SQUARE], lot, "others")):
                with self.assertRaises(BadLots) as caught:
                    list(islice(neighbours_round(first, second), 1))
                self.assertEqual(caught.exception.what, what)


class PartLots(unittest.TestCase):
    def test_both_results(self):
        parted = 0
        for one, two in couples():
            told = part_lots(patches=one, others=two)
            can_be = can_be_parted(one, two)
            parted += can_be
            if can_be:
                self.assertTrue(is_parting(one, two, told))
                self.assertIsNone(parting_fault(one, two, told))
            else:
                self.assertTrue(is_round(one, two, told))
                self.assertIsNone(round_fault(one, two, told))
        self.assertTrue(60 < parted < len(couples()) - 60)

    def test_lots_of_which_it_is_known(self):
        for one, two in ((THREE, MIDST), (MIDST, THREE), (THREE, THREE), ([POINT], [POINT]), ([POINT, POINT], [POINT]),
                         ([patch((0, 0)), patch((4, 0))], [patch((2, 0))]), ([patch((0, 0)), patch((4, 0))], [patch((4, 0))]),
                         ([patch((0, 0)), patch((4, 4))], [patch((0, 4)), patch((4, 0))]),
                         ([patch((0, 0), (0, 4)), patch((4, 0), (4, 4)), patch((0, 0), (4, 0)), patch((0, 4), (4, 4))],
                          [patch((2, 2))])):
            self.assertIsInstance(part_lots(one, two), Round)
        for one, two in ((BEYOND, BELOW), ([SQUARE], [SQUARE]), ([STRETCH], [STRETCH]), ([patch((0, 0))], [patch((0, 1))]),
                         ([patch((0, 0), (0, 4)), patch((4, 0), (4, 4))], [patch((2, 2))]),
                         ([patch((0, 0), (4, 0)), patch((0, 0), (0, 4)), patch((0, 4), (4, 0))], [patch((1, 1))])):
            self.assertIsInstance(part_lots(one, two), Parting)

    def test_single_directions_that_do_not_part(self):
        # Each couple of patches touches along a line, so that single directions in the midst of others do not part.
        rows = [(BEYOND, BELOW), (BEYOND, BELOW + [patch((-9, 0), (-8, 0))]),
                ([patch((0, 3), (6, 0), (6, 3))], [patch((0, 0), (6, 0), (0, 3))]),
                ([patch((-1, 2), (2, -1), (3, 3))], [patch((-1, -1), (2, -1), (-1, 2))])]
        for first, second in rows:
            for ones, twos in ((first, second), (second, first)):
                told = part_lots(ones, twos)
                self.assertTrue(is_parting(ones, twos, told), told.__dict__)

    def test_gaps_that_are_almost_nothing(self):
        far = 10 ** 150
        for left, right in ((-1, -1), (-3, -1), (5, 0), (0, -far), (far, -far), (-far, far - 1)):
            one = [patch((-far, left)), patch((far, right)), patch((0, 4 * far))]
            line = Fraction(left + right, 2)
            for low, parted in ((line + 1, False), (line, False), (line - Fraction(1, far * far), True)):
                two = [patch((0, low))]
                told = part_lots(one, two)
                self.assertIs(type(told), Parting if parted else Round)
                self.assertTrue(is_parting(one, two, told) if parted else is_round(one, two, told))

    def test_gaps_that_are_almost_nothing_behind_a_plain_direction(self):
        far = 10 ** 150
        one, two = [patch((-1, 0)), patch((far, Fraction(1, far))), patch((0, 5)), patch((-3, 2), (2, 1))], [patch((0, 0))]
        for lots in ((one, two), ([mirror_patch(lot) for lot in one], two)):
            for _ in range(4):
                lots = [[turn_patch(lot) for lot in row] for row in lots]
                self.assertTrue(is_parting(*lots, part_lots(*lots)))

    def test_numbers_of_many_figures(self):
        picks = source(175)
        for k in range(8):
            one, two = [
                [hull_of([(r(f"{picks.randint(-10 ** 90, 10 ** 90)}/{10 ** 88 + picks.randint(0, 10 ** 80)}"),
                           r(f"{picks.randint(-10 ** 90, 10 ** 90)}/{10 ** 88 + picks.randint(0, 10 ** 80)}"))
                          for _ in range(many)]) for many in ([1] * 6 if k % 2 else [1, 2, 3])]
                for _ in range(2)
            ]
            told = part_lots(one, two)
            self.assertTrue(is_parting(one, two, told) if can_be_parted(one, two) else is_round(one, two, told))

    def test_lists_and_tuples(self):
        for one, two in COUPLES:
            self.assertEqual(part_lots(tuple(one), tuple(two)), part_lots(list(one), list(two)))

    def test_errors(self):
        for lot in NO_LOTS:
            for first, second, what in ((lot, [SQUARE], "patches"), (lot, lot, "patches"), ([SQUARE], lot, "others")):
                for call in (part_lots, lambda a, b: parting_fault(a, b, Parting(None, None, None)),
                             lambda a, b: round_fault(a, b, Round(None))):
                    with self.assertRaises(BadLots) as caught:
                        call(first, second)
                    self.assertEqual(caught.exception.what, what)


class Results(unittest.TestCase):
    def test_parting(self):
        for thing in JUNK:
            told = Parting(direction=thing, ones=[thing], twos=thing)
            self.assertIs(told.direction, thing)
            self.assertIs(told.ones[0], thing)
            self.assertIs(told.twos, thing)
        told = Parting((1, 0), [1], (2,))
        self.assertTrue(told == Parting((1, 0), [1], (2,)))
        self.assertFalse(told != Parting((1, 0), [1], (2,)))
        for other in (Parting((1, 1), [1], (2,)), Parting((1, 0), [2], (2,)), Parting((1, 0), [1], (3,)), Round((1, 0)),
                      Parting((1, 0), (1,), (2,)), None, ((1, 0), [1], (2,))):
            self.assertFalse(told == other)
            self.assertTrue(told != other)

    def test_round(self):
        entries = [((1, 0), 0, 0), ((0, 1), 0, 1)]
        told = Round(entries=entries)
        self.assertIs(told.entries, entries)
        self.assertEqual((len(told), list(told)), (2, entries))
        self.assertEqual([entry for entry in told], entries)
        self.assertEqual((len(Round(())), list(Round(()))), (0, []))
        self.assertTrue(told == Round(list(entries)))
        self.assertFalse(told != Round(list(entries)))
        for other in (Round(tuple(entries)), Round(entries[:1]), entries, None, Parting(entries, 0, 0)):
            self.assertFalse(told == other)
            self.assertTrue(told != other)
        for thing in JUNK:
            self.assertIs(Round(thing).entries, thing)


class PartingFault(unittest.TestCase):
    ONE, TWO = [SQUARE, patch((-3, 0))], [patch((5, 0), (9, 0)), patch((1, 9)), patch((4, 4))]
    RIGHT = ((1, 1), ps((0, 0), (-3, 0)), ps((6, 0), (1, 9), (4, 4)))

    def told(self, **changed):
        parts = dict(zip(("direction", "ones", "twos"), self.RIGHT))
        parts.update(changed)
        return parting_fault(self.ONE, self.TWO, Parting(**parts))

    def test_right_ones(self):
        self.assertIsNone(parting_fault(patches=self.ONE, others=self.TWO, told=Parting(*self.RIGHT)))
        self.assertIsNone(self.told(direction=[1, 1], ones=[list(one) for one in self.RIGHT[1]], twos=list(self.RIGHT[2])))
        self.assertIsNone(self.told(ones=ps((1, "3/2"), (-3, 0)), direction=(1, 2)))

    def test_direction(self):
        for way in NO_WAYS:
            self.assertEqual(self.told(direction=way), "direction")
            self.assertEqual(self.told(direction=way, ones=None, twos=None), "direction")

    def test_ones_and_twos(self):
        for thing in JUNK + [ps((0, 0)), ps((0, 0)) * 4, [], (), [None, None], (p(0, 0), None), patch((0, 0), (1, 1)), "ab",
                             dict.fromkeys(ps((0, 0), (1, 1))), iter(ps((0, 0), (1, 1))), (p(0, 0), (0, 0))]:
            self.assertEqual(self.told(ones=thing), "ones")
            self.assertEqual(self.told(ones=thing, twos=thing), "ones")
            self.assertEqual(self.told(twos=thing), "twos")
            self.assertEqual(self.told(ones=ps((9, 9), (9, 9)), twos=thing), "twos")

    def test_one_and_two(self):
        for ones in (ps((3, 0), (-3, 0)), ps((0, 0), (-3, "1/9")), ps((-3, 0), (0, 0))):
            self.assertEqual(self.told(ones=ones), "one")
            self.assertEqual(self.told(ones=ones, twos=ps((9, 9)) * 3), "one")
        for twos in (ps((10, 0), (1, 9), (4, 4)), ps((6, 0), (1, 8), (4, 4)), ps((6, 0), (1, 9), (4, "41/10"))):
            self.assertEqual(self.told(twos=twos), "two")
            self.assertEqual(self.told(twos=twos, direction=(-1, 0)), "two")

    def test_below(self):
        self.assertEqual(self.told(direction=(-1, -1)), "below")
        self.assertEqual(self.told(direction=(1, 0)), None)
        self.assertEqual(self.told(direction=(1, 0), ones=ps((1, 0), (-3, 0))), "below")
        self.assertEqual(self.told(direction=(1, 0), ones=ps(("999/1000", 0), (-3, 0))), None)
        self.assertEqual(self.told(direction=(0, 1)), "below")
        self.assertEqual(self.told(direction=(-1, 0), ones=ps((2, 0), (-3, 0))), "below")

    def test_of_lots_that_a_direction_does_not_part(self):
        for one, two in couples()[:60]:
            for way in DIRECTIONS:
                ones = tuple(min(lot.corners, key=lambda place: amount(way, place)) for lot in one)
                twos = tuple(max(lot.corners, key=lambda place: amount(way, place)) for lot in two)
                told = parting_fault(one, two, Parting(way, ones, twos))
                self.assertEqual(told, None if are_parted(one, two, way) else "below")


class RoundFault(unittest.TestCase):
    # Along each entry's direction and the next one, the place of THREE is at or above (0, 0).
    RIGHT = (((1, 0), 1, 0), ((1, 2), 2, 0), ((-1, 2), 2, 0), ((-1, 0), 0, 0), ((-1, -2), 0, 0), ((0, -1), 1, 0))

    def told(self, entries, patches=THREE, others=MIDST):
        return round_fault(patches, others, Round(entries))

    def test_right_ones(self):
        self.assertIsNone(round_fault(patches=THREE, others=MIDST, told=Round(self.RIGHT)))
        self.assertIsNone(self.told(list(self.RIGHT)))
        self.assertIsNone(self.told([[list(entry[0]), *entry[1:]] for entry in self.RIGHT]))

    def test_rounds_that_begin_elsewhere(self):
        for k in range(6):
            self.assertIsNone(self.told(self.RIGHT[k:] + self.RIGHT[:k]))

    def test_entries(self):
        for thing in JUNK + [(), [], self.RIGHT[:1], self.RIGHT[:2], list(self.RIGHT[:2]), Round(self.RIGHT), [None] * 2,
                             dict.fromkeys(self.RIGHT), iter(self.RIGHT), "abc", {0, 1, 2}]:
            self.assertEqual(self.told(thing), "entries")

    def test_entry(self):
        wrong = [None, (), (1, 0), ((1, 0), 1), ((1, 0), 1, 0, 0), ((2, 4), 1, 0), ((0, 0), 1, 0), (None, 1, 0), ((1, 0), 3, 0),
                 ((1, 0), -1, 0), ((1, 0), True, 0), ((1, 0), 1, False), ((1, 0), 1, 1), ((1, 0), 1, -1), ((1, 0), 1.0, 0),
                 ((1, 0), None, 0), ((1, 0), 1, "0"), "abc", {0: 1, 1: 2, 2: 3}, iter(self.RIGHT[0]), (1, (1, 0), 0), 5]
        for thing in JUNK + wrong:
            for k in (0, 3, 5):
                self.assertEqual(self.told(self.RIGHT[:k] + (thing,) + self.RIGHT[k + 1:]), "entry")
        self.assertEqual(self.told([None] * 3), "entry")
        self.assertEqual(self.told(self.RIGHT[::-1] + (None,)), "entry")

    def test_half_turn(self):
        self.assertEqual(self.told(self.RIGHT[::-1]), "half turn")
        self.assertEqual(self.told(self.RIGHT[:3]), "half turn")
        self.assertEqual(self.told(self.RIGHT[3:]), "half turn")
        self.assertEqual(self.told(self.RIGHT[:1] + self.RIGHT), "half turn")
        self.assertEqual(self.told(self.RIGHT + self.RIGHT[:1]), "half turn")
        for k in range(5):
            row = list(self.RIGHT)
            row[k], row[k + 1] = row[k + 1], row[k]
            self.assertEqual(self.told(row), "half turn")

    def test_half_turns_by_the_angle(self):
        def ways(*rows):
            return self.told([(way, 0, 0) for way in rows], MIDST, MIDST)

        self.assertIsNone(ways((1, 0), (-1, 1), (-1, -1)))
        self.assertEqual(ways((1, 0), (-1, 0), (0, -1)), "half turn")
        self.assertEqual(ways((1, 0), (0, 1), (-1, 0)), "half turn")
        self.assertEqual(ways((0, 1), (-1, 0), (1, 0)), "half turn")
        self.assertEqual(ways((1, 0), (1, 0), (-1, 1), (-1, -1)), "half turn")
        self.assertEqual(ways((1, 0), (0, 1), (1, 1)), "half turn")
        self.assertIsNone(ways((10 ** 50, 1), (-10 ** 50, 1), (0, -1)))
        self.assertIsNone(ways((0, 1), (-1, -1), (1, -1)))

    def test_round(self):
        self.assertEqual(self.told(self.RIGHT * 2), "round")
        self.assertEqual(self.told(self.RIGHT * 3), "round")
        self.assertEqual(self.told(list(self.RIGHT[2:] + self.RIGHT + self.RIGHT[:2])), "round")
        five = [((1, 0), 0, 0), ((-1, 1), 0, 0), ((0, -1), 0, 0), ((1, 1), 0, 0), ((-5, -1), 0, 0)]
        self.assertEqual(self.told(five, MIDST, MIDST), "round")
        for k in range(5):
            self.assertEqual(self.told(five[k:] + five[:k], MIDST, MIDST), "round")

    def test_round_comes_before_above(self):
        self.assertEqual(self.told([(way, 0, 0) for way, _, _ in self.RIGHT * 2]), "round")
        self.assertEqual(self.told([(way, 0, 0) for way, _, _ in self.RIGHT]), "above")

    def test_above(self):
        for k, entry in enumerate(self.RIGHT):
            for index in range(3):
                row = list(self.RIGHT)
                row[k] = (entry[0], index, 0)
                ways = (entry[0], self.RIGHT[(k + 1) % 6][0])
                right = all(amount(way, THREE[index].corners[0]) >= 0 for way in ways)
                self.assertEqual(self.told(row), None if right else "above")

    def test_above_along_the_own_direction_and_the_next(self):
        one, two = [patch((1, 0)), patch((0, 1)), patch((-1, 0)), patch((0, -1))], [POINT, patch((0, 0))]
        right = (((1, 0), 0, 1), ((0, 1), 1, 1), ((-1, 0), 2, 1), ((0, -1), 3, 1))
        self.assertIsNone(self.told(right, one, two))
        self.assertEqual(self.told((((1, 0), 1, 1),) + right[1:], one, two), None)
        self.assertEqual(self.told((((1, 0), 3, 1),) + right[1:], one, two), "above")
        self.assertEqual(self.told((((1, -1), 0, 1), ((1, 1), 0, 1), ((-1, 1), 2, 1), ((-1, -1), 3, 1)), one, two), "above")
        self.assertEqual(self.told((((1, 0), 2, 1),) + right[1:], one, two), "above")

    def test_all_places_of_both_patches(self):
        way = [(1, 0), (0, 1), (-1, 0), (0, -1)]
        low, high = patch((0, 0), (1, 1)), patch((0, 0))
        row = [(one, 0, 0) for one in way]
        self.assertEqual(self.told(row, [low], [high]), "above")
        self.assertEqual(self.told(row, [high], [low]), "above")
        self.assertIsNone(self.told(row, [high], [high]))

    def test_against_the_words_of_the_document(self):
        picks = source(176)
        for one, two in couples()[:100]:
            ways = critical(one, two)
            row = tuple((way, picks.randrange(len(one)), picks.randrange(len(two))) for way in ways)
            right = is_round(one, two, Round(row))
            self.assertEqual(round_fault(one, two, Round(row)), None if right else "above")


if __name__ == "__main__":
    unittest.main()
