"""Short ways to write ratios, places, patches and facts in tests, and checks by Python's own fractions."""

import random
from fractions import Fraction
from itertools import product

from feltstone.facts import Meets, Ruler, Within
from feltstone.patches import Patch
from feltstone.tables import Table

# Nothing of these is a whole number, a ratio, a place, a direction, a patch, a table, a fact or a row.
JUNK = [None, True, False, 1.5, "", "ab", b"ab", {}, {1: 2, 3: 4}, set(), object(), int, iter([])]


def r(number):
    """A ratio from a whole number or a text such as "-7/2"."""
    one = Fraction(number)
    return (one.numerator, one.denominator)


def p(x, y):
    return (r(x), r(y))


def ps(*couples):
    return tuple(p(x, y) for x, y in couples)


def patch(*couples):
    return Patch(ps(*couples))


def bow(many):
    """A patch of so many corners."""
    return patch(*[(k, k * k) for k in range(many)])


def table(x, y, far_x, far_y):
    return Table(p(x, y), p(far_x, far_y))


def within(x, y, amount):
    return Within((x, y), r(amount))


def ruler(x, y, amount):
    return Ruler((x, y), r(amount))


def meets(*couples):
    return Meets(patch(*couples))


def number(ratio):
    return Fraction(ratio[0], ratio[1])


def numbers(place):
    return (number(place[0]), number(place[1]))


def amount(direction, place):
    x, y = numbers(place)
    return direction[0] * x + direction[1] * y


def cross(one, two, three):
    (ax, ay), (bx, by), (cx, cy) = numbers(one), numbers(two), numbers(three)
    return (bx - ax) * (cy - ay) - (by - ay) * (cx - ax)


def holds(corners, place):
    """Whether a place lies in a convex lot of corners that turn left, told by other means than the package's."""
    if len(corners) == 1:
        return numbers(corners[0]) == numbers(place)
    if len(corners) == 2:
        low, high = sorted(numbers(corner) for corner in corners)
        return cross(corners[0], corners[1], place) == 0 and low <= numbers(place) <= high
    return all(cross(one, two, place) >= 0 for one, two in zip(corners, corners[1:] + corners[:1]))


def is_told_as_patch(corners):
    """Whether a row of corners is as [1.7] wants it, told by other means than the package's."""
    if len(set(corners)) != len(corners) or min(corners, key=numbers) != corners[0]:
        return False
    if len(corners) < 3:
        return True
    # Each other corner lies strictly to the left of each side exactly if the corners turn left once round.
    for k, one in enumerate(corners):
        two = corners[(k + 1) % len(corners)]
        if any(cross(one, two, three) <= 0 for three in corners if three not in (one, two)):
            return False
    return True


def grid(low, high, step="1/2"):
    """All places of a lattice from (low, low) to (high, high)."""
    count = int((Fraction(high) - Fraction(low)) / Fraction(step))
    row = [r(Fraction(low) + k * Fraction(step)) for k in range(count + 1)]
    return list(product(row, row))


def some_places(source, many, reach=4, bottoms=(1, 1, 2, 3)):
    return [
        p(Fraction(source.randint(-reach, reach), source.choice(bottoms)),
          Fraction(source.randint(-reach, reach), source.choice(bottoms)))
        for _ in range(many)
    ]


def source(seed):
    """Numbers that are the same in each run."""
    return random.Random(seed)


DIRECTIONS = [(1, 0), (0, 1), (-1, 0), (0, -1), (1, 1), (-1, 1), (-1, -1), (1, -1), (2, 1), (-1, 3), (3, -2), (-5, -4)]

SQUARE = patch((0, 0), (2, 0), (2, 2), (0, 2))
TRIANGLE = patch((0, 0), (4, 0), (0, 3))
STRETCH = patch((-1, 2), (3, 0))
UPRIGHT = patch((1, -1), (1, 5))
POINT = patch(("1/2", "-3"))
HEXAGON = patch((-3, 0), (-1, -2), (2, -2), (3, 0), (2, 2), (-1, "5/2"))
SHAPES = [SQUARE, TRIANGLE, STRETCH, UPRIGHT, POINT, HEXAGON]
