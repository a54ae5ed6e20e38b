"""What is sure and what may be if some of the facts may be lies."""

from feltstone.claims import answer_fact
from feltstone.critical import least_reach
from feltstone.errors import NoFact, NoStones
from feltstone.facts import Meets
from feltstone.liars import check_most, lots_of_liars, quarrels_against
from feltstone.lots import has_each, in_all, lots_among
from feltstone.patches import Patch, reach_of
from feltstone.places import check_direction, check_place, order_places
from feltstone.ratios import compare, greatest_of, is_whole
from feltstone.rounds import arcs_of_target, stone_below


def struck_lots(case, most):
    """Couples (struck, others): a lot of Withins and Rulers, and the lots of Meets that may be struck with it.

    Together they are as many facts as may be lies, and the facts that are left have a stone. Stones that break fewer
    facts fit what some of these lots leave, too. What Withins and Rulers are struck changes all patches; what Meets
    are struck with them changes none, but leaves some out.
    """
    quarrels, many = quarrels_against(case), min(most, len(case))
    meets = [number for number, fact in enumerate(case.facts) if isinstance(fact, Meets)]
    rows = []
    for struck in lots_among([number for number in range(len(case)) if number not in meets], many):
        lots = [lot for lot in lots_among(meets, many - len(struck)) if len(lot) == many - len(struck)]
        others = [lot for lot in lots if has_each((*struck, *lot), quarrels)]
        if others:
            rows.append((struck, others))
    if not rows:
        raise NoStones()
    return rows


def rows_left(case, struck):
    """The patches of a case without some Withins and Rulers, each with its number in the case, that have places."""
    left = [number for number in range(len(case)) if number not in struck]
    patches = case.without_facts(struck).patches
    return [(number if number < 0 else left[number], patch) for number, patch in patches if patch is not None]


def lot_left(rows, others):
    """The lot of the patches without those of some Meets."""
    return [patch for number, patch in rows if number not in others]


def stone_without(rows, lots, target):
    """A stone that is below a target along some direction, with one of some lots of Meets struck, or None."""
    arcs = arcs_of_target([patch for _, patch in rows], target)
    for others in lots:
        left = [arc for arc in arcs if rows[arc[2]][0] not in others]
        stone = stone_below(lot_left(rows, others), target, left)
        if stone is not None:
            return stone
    return None


def stone_that_misses(rows, lots, number):
    """A stone without a place in the patch of a Meets, with one of some lots of Meets struck, or None."""
    patches = {known: patch for known, patch in rows}
    # Where the patch is empty, no stone has a place in it, and the whole is a stone.
    return stone_without(rows, lots, patches[number]) if number in patches else patches[-1]


def stone_against(case, rows, lots, number):
    """A stone that breaks a fact, with one of some lots of Meets struck, or None; the fact is struck with each."""
    if isinstance(case.facts[number], Meets):
        return stone_that_misses(rows, lots, number)
    for others in lots:
        breaking = answer_fact(lot_left(rows, others), case.facts[number]).breaking
        if breaking is not None:
            return breaking
    return None


def lots_with(struck, lots, number):
    """Those of some lots of Meets with which, and with what else is struck, a fact is struck."""
    return [others for others in lots if number in struck or number in others]


def stones_breaking(case, most, numbers):
    """For those of some facts that some of the stones breaks such a stone, by the number of the fact."""
    found = {}
    for struck, lots in struck_lots(case, most):
        asked = [(number, lots_with(struck, lots, number)) for number in numbers if number not in found]
        asked = [(number, others) for number, others in asked if others]
        rows = rows_left(case, struck) if asked else []
        for number, others in asked:
            stone = stone_against(case, rows, others, number)
            if stone is not None:
                found[number] = stone
    return found


def sure_liars(case, most):
    """The numbers of the facts that each of the stones breaks."""
    lots = lots_of_liars(case, most)
    if not lots:
        raise NoStones()
    return in_all(lots)


def sure_truths(case, most):
    """The numbers of the facts that each of the stones keeps."""
    check_most(most)
    numbers = list(range(len(case)))
    broken = stones_breaking(case, most, numbers)
    return tuple([number for number in numbers if number not in broken])


def stone_breaking(case, most, number):
    """One of the stones that breaks the fact of this number, or None."""
    check_most(most)
    if not is_whole(number, 0, len(case) - 1):
        raise NoFact(number)
    return stones_breaking(case, most, (number,)).get(number)


def verdict_with_liars(case, most, place):
    """Whether each of the stones has the place, some has, or none has."""
    check_most(most)
    place = check_place(place)
    some, every = False, True
    for struck, lots in struck_lots(case, most):
        rows = rows_left(case, struck)
        if place not in rows[0][1]:
            every = False
        else:
            some = True
            every = every and stone_without(rows, lots, Patch((place,))) is None
        if some and not every:
            return "maybe"
    return "always" if every else "never"


def joined(spans):
    """Spans of amounts as few as can be, ascending: those that touch are taken together."""
    rows = []
    # Couples of ratios are in order as places are.
    for low, high in order_places(spans):
        if rows and compare(low, rows[-1][1]) <= 0:
            rows[-1] = (rows[-1][0], greatest_of((rows[-1][1], high)))
        else:
            rows.append((low, high))
    return tuple(rows)


def reaches_with_liars(case, most, direction):
    """All reaches of the stones along a direction, as ascending spans with both ends."""
    check_most(most)
    direction = check_direction(direction)
    spans = []
    for struck, lots in struck_lots(case, most):
        rows = rows_left(case, struck)
        reach = reach_of(rows[0][1], direction)
        spans.extend([(least_reach(lot_left(rows, others), direction), reach) for others in lots])
    return joined(spans)
