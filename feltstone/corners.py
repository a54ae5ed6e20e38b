"""Rows of corners: the least convex lot round places, and what halves leave of it."""

from feltstone.places import compare_amount, compare_places, order_places, rough_place, turn_at, whole_row
from feltstone.ratios import lowest_terms, sign_of


def rough_turn(first, second, third):
    """What turn_at tells of three places, by their rough ones, or 0 where these do not tell it."""
    (ax, ay), (bx, by), (cx, cy) = first, second, third
    dx, dy, ex, ey = bx - ax, by - ay, cx - ax, cy - ay
    cross = dx * ey - dy * ex
    # Each of the four numbers is off by less than 1, so the cross product by less than this.
    off = abs(dx) + abs(dy) + abs(ex) + abs(ey) + 2
    return 0 if abs(cross) < off else sign_of(cross)


def turns_left(first, second, third):
    """Whether three places, each told with its rough one, turn left."""
    # Of long numbers the rough ones tell it much sooner.
    turn = rough_turn(first[1], second[1], third[1]) or turn_at(first[0], second[0], third[0])
    return turn > 0


def left_chain(rows):
    """The places of some rows, in their order, without those at which the way does not turn left."""
    chain = []
    for row in rows:
        while len(chain) > 1 and not turns_left(chain[-2], chain[-1], row):
            chain.pop()
        chain.append(row)
    return [place for place, _ in chain]


def hull_corners(places):
    """The corners, as a patch has them, of the least convex lot with one place or more."""
    rows = [(place, rough_place(place)) for place in order_places(places)]
    if len(rows) == 1:
        return (rows[0][0],)
    there, back = left_chain(rows), left_chain(rows[::-1])
    return tuple(there[:-1] + back[:-1])


def couples_round(row):
    """Each entry of a list or tuple with the next one, and the last with the first."""
    return list(zip(row, row[1:] + row[:1]))


def sides_of(corners):
    """The couples of neighbouring corners, as a patch has them."""
    if len(corners) < 3:
        return tuple(zip(corners, corners[1:]))
    return tuple(couples_round(corners))


def is_between(one, other, place):
    """Whether a place lies on the stretch from one place to another that comes behind it."""
    if turn_at(one, other, place) != 0:
        return False
    return compare_places(one, place) <= 0 and compare_places(place, other) <= 0


def corners_hold(corners, place):
    """Whether a place lies in the lot of these corners."""
    if len(corners) < 3:
        return is_between(corners[0], corners[-1], place)
    for one, other in sides_of(corners):
        if turn_at(one, other, place) < 0:
            return False
    return True


def height_over(direction, row, amount):
    """A whole number, 0 at the amount: how far a place, told by its whole_row, is beyond it, times both bottoms."""
    return (direction[0] * row[0] + direction[1] * row[1]) * amount[1] - row[2] * amount[0]


def place_at(one, other, direction, amount):
    """The place with the amount on the way between two places, of which one is below it and one beyond it."""
    first, second = whole_row(one), whole_row(other)
    rise, fall = height_over(direction, first, amount), height_over(direction, second, amount)
    # Each place is weighed by the height of the other; done in whole numbers, as each division costs much.
    x, y, bottom = [b * rise - a * fall for a, b in zip(first, second)]
    return (lowest_terms(x, bottom), lowest_terms(y, bottom))


def corners_within(corners, direction, amount):
    """The corners of what lies in the half: in their order round, begun anywhere, none if nothing does.

    A stretch is gone along there and back, so the place at which it is cut comes twice.
    """
    ranks = [compare_amount(direction, corner, amount) for corner in corners]
    kept = []
    for k in range(len(corners)):
        if ranks[k - 1] * ranks[k] < 0:
            kept.append(place_at(corners[k - 1], corners[k], direction, amount))
        if ranks[k] <= 0:
            kept.append(corners[k])
    return kept


def corners_in_all(corners, halves):
    """The corners of what lies in all halves, as corners_within tells them."""
    for direction, amount in halves:
        corners = corners_within(corners, direction, amount)
    return corners
