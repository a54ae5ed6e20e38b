"""Sums and opposites of patches, and the even stones that have their breadths."""

from feltstone.corners import couples_round
from feltstone.patches import breadth_of, grow_patch, hull_of
from feltstone.places import check_direction, place_by, raw_step, turn_of
from feltstone.ratios import HALF, negative


def steps_round(patch):
    """The steps once round a patch from corner to corner, each times a number above 0; of a stretch there and back."""
    if len(patch) == 1:
        return []
    return [raw_step(one, other) for one, other in couples_round(patch.corners)]


def corners_together(one, other):
    """Couples of corners of two patches whose sums have the corners of the sum among them, in their order round.

    Both patches are gone round at once from their least corners: the next step is that of the two that is less turned
    to the left. From their least corners on, the two never are as much as a half turn apart, so the turn between them
    tells which it is; equal ones are taken together.
    """
    steps, other_steps = steps_round(one), steps_round(other)
    at, other_at = 0, 0
    couples = [(one.corners[0], other.corners[0])]
    while at < len(steps) or other_at < len(other_steps):
        turn = 1
        if at == len(steps):
            turn = -1
        elif other_at < len(other_steps):
            turn = turn_of(steps[at], other_steps[other_at])
        if turn >= 0:
            at += 1
        if turn <= 0:
            other_at += 1
        couples.append((one.corners[at % len(one)], other.corners[other_at % len(other)]))
    return couples


def sum_patches(one, other):
    """The patch of all sums of a place of the one and a place of the other."""
    return hull_of([place_by(place, step) for place, step in corners_together(one, other)])


def opposite_patch(patch):
    """The patch of all places with both numbers turned about."""
    return hull_of([(negative(x), negative(y)) for x, y in patch.corners])


def difference_range(patch, direction):
    """The least and the greatest amount of the differences of two places of a patch."""
    breadth = breadth_of(patch, check_direction(direction))
    return (negative(breadth), breadth)


def is_even(patch):
    """Whether a patch is its own opposite."""
    return opposite_patch(patch) == patch


def even_of(patch):
    """The patch of the halves of all differences of two places of a patch."""
    return grow_patch(sum_patches(patch, opposite_patch(patch)), HALF)
