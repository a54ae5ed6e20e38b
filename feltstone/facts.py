"""Facts: what was felt of a stone."""

from feltstone.errors import BadFact
from feltstone.patches import Patch, common_patch, grow_patch, mirror_patch, reach_of, shift_patch, turn_patch
from feltstone.places import across, amount_at, check_place, check_size, is_direction, mirror_direction
from feltstone.ratios import compare, is_ratio, plus, times

MOST_CORNERS = 16


def checked_half(direction, amount):
    """The direction as a tuple and the amount."""
    if not is_direction(direction):
        raise BadFact("direction")
    if not is_ratio(amount):
        raise BadFact("amount")
    return ((direction[0], direction[1]), amount)


def shifted_amount(half, step):
    """The amount at which a half ends that is moved by the step."""
    direction, amount = half
    return plus(amount, amount_at(direction, check_place(step)))


def grown_amount(half, size):
    """The amount at which a half ends that is grown by the size."""
    return times(half[1], check_size(size))


class Within:
    """No place of the stone is beyond the amount along the direction."""

    def __init__(self, direction, amount):
        self.direction, self.amount = checked_half(direction, amount)

    def __eq__(self, other):
        return isinstance(other, Within) and self.direction == other.direction and self.amount == other.amount

    @property
    def half(self):
        """The direction and the amount."""
        return (self.direction, self.amount)

    def shifted(self, step):
        """The fact for a stone moved by the step."""
        return Within(self.direction, shifted_amount(self.half, step))

    def turned(self):
        """The fact for a stone turned left by a quarter about (0, 0)."""
        return Within(across(self.direction), self.amount)

    def mirrored(self):
        """The fact for a stone with the first number of all places turned about."""
        return Within(mirror_direction(self.direction), self.amount)

    def grown(self, size):
        """The fact for a stone with both numbers of all places times a size above 0."""
        return Within(self.direction, grown_amount(self.half, size))


class Ruler:
    """No place of the stone is beyond the amount along the direction, and some place has just this amount."""

    def __init__(self, direction, amount):
        self.direction, self.amount = checked_half(direction, amount)

    def __eq__(self, other):
        return isinstance(other, Ruler) and self.direction == other.direction and self.amount == other.amount

    @property
    def half(self):
        """The direction and the amount."""
        return (self.direction, self.amount)

    def shifted(self, step):
        """The fact for a stone moved by the step."""
        return Ruler(self.direction, shifted_amount(self.half, step))

    def turned(self):
        """The fact for a stone turned left by a quarter about (0, 0)."""
        return Ruler(across(self.direction), self.amount)

    def mirrored(self):
        """The fact for a stone with the first number of all places turned about."""
        return Ruler(mirror_direction(self.direction), self.amount)

    def grown(self, size):
        """The fact for a stone with both numbers of all places times a size above 0."""
        return Ruler(self.direction, grown_amount(self.half, size))


class Meets:
    """Some place of the stone lies in the patch."""

    def __init__(self, patch):
        if not isinstance(patch, Patch) or len(patch) > MOST_CORNERS:
            raise BadFact("patch")
        self.patch = patch

    def __eq__(self, other):
        return isinstance(other, Meets) and self.patch == other.patch

    @property
    def half(self):
        """None, as this fact shuts no place out."""
        return None

    def shifted(self, step):
        """The fact for a stone moved by the step."""
        return Meets(shift_patch(self.patch, check_place(step)))

    def turned(self):
        """The fact for a stone turned left by a quarter about (0, 0)."""
        return Meets(turn_patch(self.patch))

    def mirrored(self):
        """The fact for a stone with the first number of all places turned about."""
        return Meets(mirror_patch(self.patch))

    def grown(self, size):
        """The fact for a stone with both numbers of all places times a size above 0."""
        return Meets(grow_patch(self.patch, check_size(size)))


def is_fact(thing):
    """Whether a thing is a fact."""
    return isinstance(thing, (Within, Ruler, Meets))


def has_corner_in(one, other):
    """Whether some corner of the first patch lies in the second."""
    for corner in one.corners:
        if corner in other:
            return True
    return False


def have_common(one, other):
    """Whether two patches have a place in common."""
    # Mostly a corner shows it, which is told sooner than all that both have in common.
    if has_corner_in(one, other) or has_corner_in(other, one):
        return True
    return common_patch(one, other) is not None


def is_kept(fact, stone):
    """Whether a stone keeps the fact."""
    if isinstance(fact, Meets):
        return have_common(stone, fact.patch)
    rank = compare(reach_of(stone, fact.direction), fact.amount)
    if isinstance(fact, Ruler):
        return rank == 0
    return rank <= 0
