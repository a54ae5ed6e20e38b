"""Tables: the rectangles on which stones lie."""

from feltstone.errors import BadTable
from feltstone.patches import Patch, grow_patch, mirror_patch, shift_patch, turn_patch
from feltstone.places import check_place, check_size, is_place
from feltstone.ratios import compare


class Table:
    """All places whose numbers lie from those of one place to those of another."""

    def __init__(self, low, high):
        if not is_place(low):
            raise BadTable("low")
        if not is_place(high):
            raise BadTable("high")
        if compare(low[0], high[0]) >= 0 or compare(low[1], high[1]) >= 0:
            raise BadTable("order")
        self.low = (low[0], low[1])
        self.high = (high[0], high[1])
        self.ground = Patch((self.low, (high[0], low[1]), self.high, (low[0], high[1])))

    def __eq__(self, other):
        return isinstance(other, Table) and self.low == other.low and self.high == other.high

    def shifted(self, step):
        """The table moved by the step."""
        return table_on(shift_patch(self.ground, check_place(step)))

    def turned(self):
        """The table turned left by a quarter about (0, 0)."""
        return table_on(turn_patch(self.ground))

    def mirrored(self):
        """The table with the first number of all places turned about."""
        return table_on(mirror_patch(self.ground))

    def grown(self, size):
        """The table with both numbers of all places times a size above 0."""
        return table_on(grow_patch(self.ground, check_size(size)))


def table_on(ground):
    """The table of a rectangle that is led along; its first and third corner are the lowest and the highest."""
    return Table(ground.corners[0], ground.corners[2])
