"""Cases and lots of patches for tests, and what holds of them, told by other means than the package's."""

from fractions import Fraction
from math import gcd, isqrt

from feltstone.cases import Case
from feltstone.facts import Meets, Ruler, Within
from feltstone.patches import hull_of
from tests.makers import amount, holds, meets, number, numbers, p, r, ruler, some_places, source, table, within

TABLE = table(-9, -9, 9, 9)
FOUR = [ruler(1, 0, 4), ruler(0, 1, 2), ruler(-1, 0, 0), ruler(0, -1, 0)]
MIXED = [within(1, 1, 5), meets((0, 0), (20, 0), (0, 20)), ruler(1, 0, 4), meets((3, 3), (8, 3)), within(0, -1, 3),
         meets((9, 9)), ruler(1, 1, 5), within(1, 1, 5)]
EMPTY = [within(1, 0, 1), meets((0, 0)), ruler(-1, 0, -2), within(0, 1, 3)]
NOTHING = Case(TABLE, [])

# The examples [2.14] and [3.11].
BOX = Case(TABLE, FOUR)
FIVE = BOX.with_fact(ruler(1, 1, 5))
TOO_FAR = BOX.with_fact(ruler(1, 1, 7))
TOO_LOW = BOX.with_fact(ruler(1, 1, -1))
SIDES = Case(TABLE, [meets((0, 0), (4, 0)), meets((0, 4), (4, 0)), meets((0, 0), (0, 4)), within(-1, 0, 0),
                     within(0, -1, 0), within(1, 1, 4)])

# The example [6.11]: stones from the left to the right end of the table, and stones from its low end to its high one.
WIDE = Case(table(0, 0, 4, 4), [ruler(1, 0, 4), ruler(-1, 0, 0)])
HIGH = Case(table(0, 0, 4, 4), [ruler(0, 1, 4), ruler(0, -1, 0)])
# What all stones of this case have is the triangle of three places.
THREE_PLACES = Case(TABLE, [meets((0, 0)), meets((4, 0)), within(0, 1, 8), meets((0, 4))])
ONE_PLACE = Case(TABLE, [within(1, 0, 1), ruler(-1, 0, -1), ruler(0, 1, 1), within(0, -1, -1)])
ON_STRETCH = Case(TABLE, [within(-1, -1, -3), ruler(1, 1, 3), within(1, 0, 2), meets((1, 2)), ruler(-1, 0, 0)])
SMALL = Case(table(0, 0, 1, 1), [within(1, 1, "3/2"), ruler(1, 0, 1)])
FAR = Case(table(20, -9, 30, 9), [ruler(-1, 0, -20), meets((20, 0), (25, 9))])
# The wholes of these touch those of SMALL and BOX along a side and at a corner.
BESIDE = Case(table(4, -9, 9, 9), [meets((4, 1), (5, 1))])
AT_CORNER = Case(table(4, 2, 9, 9), [])


def pairs_of_cases(many=60, seed=73):
    """Couples of cases with stones: special ones, and by chance near to each other or far apart."""
    special = [WIDE, HIGH, THREE_PLACES, ONE_PLACE, ON_STRETCH, SMALL, FAR, BESIDE, AT_CORNER, BOX, FIVE]
    pairs = [(one, other) for one in special for other in special]
    picks, cases = source(seed), cases_with_stones(40, seed)
    for _ in range(many):
        case, other = picks.choice(cases), picks.choice(cases)
        pairs.append((case, other.shifted(p(picks.choice([0, 0, 5, -12]), picks.choice([0, 0, "7/2", 13])))))
    return pairs


def some_fact(picks):
    way = picks.choice([(1, 0), (0, 1), (-1, 0), (0, -1), (1, 2), (-2, 1), (1, -1)])
    kind = picks.randint(0, 2)
    if kind == 0:
        return Within(way, r(picks.randint(-1, 6)))
    if kind == 1:
        return Ruler(way, r(picks.randint(0, 6)))
    return Meets(hull_of(some_places(picks, picks.randint(1, 5), 5)))


def some_cases():
    picks = source(71)
    cases = [NOTHING, BOX, Case(TABLE, MIXED), Case(TABLE, EMPTY), Case(table(1, 1, 2, 3), FOUR)]
    for _ in range(40):
        cases.append(Case(table(-4, -3, 5, 4), [some_fact(picks) for _ in range(picks.randint(1, 7))]))
    return cases


def lot_of(case):
    return [patch for _, patch in case.patches]


def cases_with_stones(many=40, seed=72):
    """Cases that have stones, some with wholes of one place or a stretch."""
    picks = source(seed)
    point = Case(TABLE, [within(1, 0, 1), ruler(-1, 0, -1), ruler(0, 1, 2), within(0, -1, -2), meets((0, 1), (3, 4))])
    stretch = Case(TABLE, [within(1, 1, 3), within(-1, -1, -3), meets((0, 0), (9, 0)), ruler(0, 1, 7)])
    cases = [NOTHING, BOX, FIVE, SIDES, point, stretch]
    while len(cases) < many:
        case = Case(table(-5, -4, 6, 5), [some_fact(picks) for _ in range(picks.randint(1, 7))])
        if None not in lot_of(case):
            cases.append(case)
    return cases


def twelve_facts(figures, every):
    """A case of twelve facts with numbers of so many figures that has stones; each so-manieth fact is a Meets."""
    picks, wide = source(figures + every), 10 ** (figures - 2)
    facts = []
    for k in range(12):
        x, y = [(3, 1), (1, 3), (-1, 2), (-3, 1), (-2, -3), (1, -2)][k % 6]
        x, y = lowest(x * wide + picks.randint(0, wide), y * wide + picks.randint(0, wide))
        if every and k % every == 0:
            facts.append(Meets(hull_of([
                p(Fraction(x + picks.randint(-wide, wide), 2 * wide + k), Fraction(y + picks.randint(-wide, wide), 2 * wide - k))
                for _ in range(16)])))
        else:
            # All these rulers touch the circle with the radius 5, but for what is less than one step of the last figure.
            facts.append(Ruler((x, y), (isqrt(25 * (x * x + y * y)), 1)))
    return Case(TABLE, facts)


def meet(one, other):
    """Whether two rows of corners have a place in common: whether 0 is the difference of two of their places."""
    steps = []
    for (ax, ay) in map(numbers, one):
        for (bx, by) in map(numbers, other):
            steps.append(p(ax - bx, ay - by))
    return holds(hull_of(steps).corners, p(0, 0))


def keeps(stone, fact):
    if isinstance(fact, Meets):
        return meet(stone.corners, fact.patch.corners)
    greatest = max(amount(fact.direction, corner) for corner in stone.corners)
    if isinstance(fact, Ruler):
        return greatest == number(fact.amount)
    return greatest <= number(fact.amount)


def lies_on(stone, ground):
    return all(holds(ground.corners, corner) for corner in stone.corners)


def fits(case, stone):
    return lies_on(stone, case.table.ground) and all(keeps(stone, fact) for fact in case.facts)


def stones_in(case, picks, many=4):
    """Stones that fit: the whole, and hulls of places of all patches."""
    stones = [case.whole]
    for _ in range(many):
        stones.append(hull_of([place_in(patch, picks) for patch in lot_of(case)]))
    return stones


def place_in(patch, picks):
    """A place of a patch: a corner, or somewhere between corners."""
    shares = [picks.choice([0, 0, 1, 2]) for _ in patch.corners]
    shares[picks.randrange(len(shares))] += 1
    x = sum(share * numbers(corner)[0] for share, corner in zip(shares, patch.corners))
    y = sum(share * numbers(corner)[1] for share, corner in zip(shares, patch.corners))
    return p(Fraction(x) / sum(shares), Fraction(y) / sum(shares))


def greatest_least(patches, way):
    """The greatest, over the patches, of the least amounts."""
    return max(min(amount(way, corner) for corner in patch.corners) for patch in patches)


def least_greatest(patches, way):
    """The least, over the patches, of the greatest amounts."""
    return min(max(amount(way, corner) for corner in patch.corners) for patch in patches)


def are_parted(patches, others, way):
    return greatest_least(patches, way) < least_greatest(others, way)


def round_key(way):
    """A number that ascends with the angle of a direction from (1, 0) on."""
    share = Fraction(way[0], abs(way[0]) + abs(way[1]))
    return 1 - share if way[1] >= 0 else 3 + share


def lowest(x, y):
    """The direction of two numbers."""
    x, y = Fraction(x), Fraction(y)
    scale = x.denominator * y.denominator
    x, y = int(x * scale), int(y * scale)
    return (x // gcd(x, y), y // gcd(x, y))


def critical(patches, others):
    """The critical directions of two lots in round order."""
    found = {(1, 0), (0, 1), (-1, 0), (0, -1)}
    for ax, ay in {numbers(corner) for patch in patches for corner in patch.corners}:
        for bx, by in {numbers(corner) for patch in others for corner in patch.corners}:
            if (ax, ay) != (bx, by):
                found |= {lowest(ay - by, bx - ax), lowest(by - ay, ax - bx)}
    return sorted(found, key=round_key)


def ways_between(patches, others):
    """One direction strictly between each critical one and its next."""
    ways = critical(patches, others)
    return [lowest(one[0] + two[0], one[1] + two[1]) for one, two in zip(ways, ways[1:] + ways[:1])]


def can_be_parted(patches, others):
    return any(are_parted(patches, others, way) for way in ways_between(patches, others))


def some_lots(seed, many, reach=3, most=5):
    """Couples of small lots: far apart, touching, overlapping, and along one line."""
    picks = source(seed)
    for k in range(many):
        step = (picks.randint(-4, 4), picks.randint(-4, 4)) if k % 3 == 0 else (0, 0)
        yield [
            [some_patch(picks, reach, shift, k % 5 == 0) for _ in range(picks.randint(1, most))]
            for shift in ((0, 0), step)
        ]


def some_patch(picks, reach, step, on_line):
    x, y = picks.randint(-reach, reach) + step[0], picks.randint(-reach, reach) + step[1]
    places = [(x + picks.randint(-1, 1), y + picks.randint(-1, 1)) for _ in range(picks.choice([1, 1, 1, 2, 2, 3, 4]))]
    if on_line:
        places = [(x, 2 * x - 1) for x, _ in places]
    return hull_of([p(x, y) for x, y in places])
