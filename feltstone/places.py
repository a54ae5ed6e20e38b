"""Places and steps (couples of ratios) and directions (couples of whole numbers)."""

from math import gcd

from feltstone.errors import BadAmount, BadDirection, BadPlace, BadSize
from feltstone.ratios import ONE, ZERO, compare, greatest_of, is_ratio, is_row, is_whole, least_of, lowest_terms
from feltstone.ratios import minus, negative, over, plus, sign_of, sum_of, times

AXES = ((1, 0), (0, 1), (-1, 0), (0, -1))


def is_place(thing):
    """Whether a thing is a list or tuple of two ratios."""
    return is_row(thing) and len(thing) == 2 and is_ratio(thing[0]) and is_ratio(thing[1])


def check_place(place):
    """The place, or the step, as a tuple."""
    if not is_place(place):
        raise BadPlace()
    return (place[0], place[1])


def is_direction(thing):
    """Whether a thing is a list or tuple of two whole numbers without a common divisor above 1."""
    if not is_row(thing) or len(thing) != 2:
        return False
    return is_whole(thing[0]) and is_whole(thing[1]) and gcd(thing[0], thing[1]) == 1


def check_direction(direction):
    """The direction as a tuple."""
    if not is_direction(direction):
        raise BadDirection()
    return (direction[0], direction[1])


def check_amount(amount):
    """The amount, a ratio."""
    if not is_ratio(amount):
        raise BadAmount()
    return amount


def check_size(size):
    """The size, a ratio above 0."""
    if not is_ratio(size) or size[0] <= 0:
        raise BadSize()
    return size


def whole_direction(x, y):
    """The direction of two whole numbers."""
    share = gcd(x, y)
    if share == 0:
        raise BadDirection()
    return (x // share, y // share)


def direction_of(step):
    """The direction along which a step leads."""
    x, y = step
    return whole_direction(x[0] * y[1], y[0] * x[1])


def across(direction):
    """The direction a quarter turn to the left."""
    x, y = direction
    return (-y, x)


def opposite(direction):
    """The direction a half turn away."""
    x, y = direction
    return (-x, -y)


def mirror_direction(direction):
    """The direction with its first number turned about."""
    x, y = direction
    return (-x, y)


def between_of(one, other):
    """The direction of the sum of two directions."""
    return whole_direction(one[0] + other[0], one[1] + other[1])


def turn_of(one, other):
    """1, 0 or -1: whether the second direction lies to the left of the first, along its line, or to the right."""
    return sign_of(one[0] * other[1] - one[1] * other[0])


def quarter_of(direction):
    """The number of the direction's quarter, and the direction turned back into the first quarter."""
    x, y = direction
    if x > 0 and y >= 0:
        return (0, x, y)
    if y > 0:
        return (1, y, -x)
    if x < 0:
        return (2, -x, -y)
    return (3, -y, x)


def scaled_floor(top, bottom, scale):
    """The greatest whole number that is not above scale times top / bottom.

    Two unlike fractions with bottoms up to b differ by 1 / b^2 or more. So with b^2 as the scale
    these floors are in the order of the fractions, and equal only where the fractions are equal.
    """
    return top * scale // bottom


def order_round(directions):
    """The unlike directions, by ascending angle from (1, 0) on."""
    unlike = {(x, y): True for x, y in directions}
    rows = [(quarter_of(direction), direction) for direction in list(unlike)]
    scale = max([row[0][1] for row in rows], default=1) ** 2
    keyed = [(quarter, scaled_floor(y, x, scale), direction) for (quarter, x, y), direction in rows]
    return tuple([row[2] for row in sorted(keyed)])


def raw_amount(direction, place):
    """The amount of a place as a couple (top, bottom), the bottom above 0, not in lowest terms."""
    x, y = place
    return (direction[0] * x[0] * y[1] + direction[1] * y[0] * x[1], x[1] * y[1])


def amount_at(direction, place):
    """The amount of a place along a direction."""
    top, bottom = raw_amount(direction, place)
    return lowest_terms(top, bottom)


def compare_amount(direction, place, amount):
    """-1, 0 or 1 as a place is below, at or beyond an amount along a direction."""
    return compare(raw_amount(direction, place), amount)


def step_from(one, other):
    """The step that leads from the first place to the second."""
    return (minus(other[0], one[0]), minus(other[1], one[1]))


def place_by(place, step):
    """The place to which a step leads."""
    return (plus(place[0], step[0]), plus(place[1], step[1]))


def place_on(one, other, share):
    """The first place moved by the share of the step to the second."""
    return place_by(one, grow_place(step_from(one, other), share))


def mean_place(places):
    """The mean of one place or more."""
    many = (len(places), 1)
    x = sum_of([place[0] for place in places])
    y = sum_of([place[1] for place in places])
    return (over(x, many), over(y, many))


def whole_row(place):
    """Three whole numbers (x, y, bottom): the place multiplied by the bottom, and the bottom."""
    x, y = place
    if x[1] == y[1]:
        return (x[0], y[0], x[1])
    return (x[0] * y[1], y[0] * x[1], x[1] * y[1])


def raw_step(one, other):
    """Two whole numbers: the step from the first place to the second times a number above 0."""
    ax, ay, a = whole_row(one)
    bx, by, b = whole_row(other)
    return (bx * a - ax * b, by * a - ay * b)


def raw_cross(first, second, third):
    """What cross_at returns as a couple (top, bottom), the bottom above 0, not in lowest terms."""
    ax, ay, a = whole_row(first)
    bx, by, b = whole_row(second)
    cx, cy, c = whole_row(third)
    top = a * (bx * cy - by * cx) + b * (cx * ay - cy * ax) + c * (ax * by - ay * bx)
    return (top, a * b * c)


def cross_at(first, second, third):
    """Twice the area of the triangle of three places, above 0 if they turn left."""
    top, bottom = raw_cross(first, second, third)
    return lowest_terms(top, bottom)


def turn_at(first, second, third):
    """1, 0 or -1 as three places turn left, lie along one line, or turn right."""
    return sign_of(raw_cross(first, second, third)[0])


def side_normal(one, other):
    """The direction that points to the right of the step from one place to another."""
    dx, dy = raw_step(one, other)
    return whole_direction(dy, -dx)


def turn_place(place):
    """The place turned left by a quarter about (0, 0)."""
    x, y = place
    return (negative(y), x)


def mirror_place(place):
    """The place with its first number turned about."""
    x, y = place
    return (negative(x), y)


def grow_place(place, size):
    """Both numbers of the place times a ratio."""
    x, y = place
    return (times(x, size), times(y, size))


def product_of(one, other):
    """The sum of the products of both numbers of two steps."""
    return plus(times(one[0], other[0]), times(one[1], other[1]))


def square_of(step):
    """The square of the length of a step."""
    return product_of(step, step)


def square_along(space, direction):
    """The square of a space, measured as a distance along the direction."""
    return over(times(space, space), (direction[0] * direction[0] + direction[1] * direction[1], 1))


def nearest_share(place, step):
    """The share, from 0 to 1, of a step from a place that leads nearest to (0, 0)."""
    length = square_of(step)
    if length == ZERO:
        return ZERO
    return greatest_of((ZERO, least_of((ONE, over(negative(product_of(place, step)), length)))))


def compare_places(one, other):
    """-1, 0 or 1 as the first place comes before, is, or comes behind the second: by x, then by y."""
    return compare(one[0], other[0]) or compare(one[1], other[1])


def rough_place(place):
    """Both numbers of a place times 2 ** 64, cut down to whole numbers, so too low by less than 1."""
    (x, bottom), (y, other_bottom) = place
    return (x * 2 ** 64 // bottom, y * 2 ** 64 // other_bottom)


def are_told_apart(row, following):
    """Whether the rough places of two rows (rough place, place), neighbours in order, tell the order of the places."""
    (rough, place), (next_rough, next_place) = row, following
    if rough[0] != next_rough[0]:
        return True
    return place[0] == next_place[0] and rough[1] != next_rough[1]


def order_places(places):
    """A list of the unlike places, ascending by x, then by y."""
    unlike = list({(x, y): True for x, y in places})
    rows = sorted([(rough_place(place), place) for place in unlike])
    # Of long numbers the rough ones are told much sooner, and mostly they tell the order.
    if all([are_told_apart(row, following) for row, following in zip(rows, rows[1:])]):
        return [place for _, place in rows]
    scale = max([max(x[1], y[1]) for x, y in unlike]) ** 2
    keyed = [(scaled_floor(x[0], x[1], scale), scaled_floor(y[0], y[1], scale), (x, y)) for x, y in unlike]
    return [row[2] for row in sorted(keyed)]
