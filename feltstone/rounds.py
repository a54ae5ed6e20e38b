"""Whether a direction parts two lots of patches, and the rounds that show that none does."""

from feltstone.corners import couples_round, hull_corners
from feltstone.critical import check_lots, critical_for, greatest_low, high_places, least_reach, low_places
from feltstone.patches import corner_patches, hull_of, low_of, reach_of
from feltstone.places import AXES, across, amount_at, between_of, check_direction, is_direction, is_place, opposite
from feltstone.places import quarter_of, raw_step, side_normal, turn_of, whole_direction
from feltstone.ratios import compare, greatest_of, is_row, is_whole, least_of


class Parting:
    """The result for lots that are parted: a direction and a place of each patch."""

    def __init__(self, direction, ones, twos):
        self.direction = direction
        self.ones = ones
        self.twos = twos

    def __eq__(self, other):
        return (
            isinstance(other, Parting) and self.direction == other.direction
            and self.ones == other.ones and self.twos == other.twos
        )


class Round:
    """The result for lots that no direction parts: entries (direction, index, other index) that go round once."""

    def __init__(self, entries):
        self.entries = entries

    def __eq__(self, other):
        return isinstance(other, Round) and self.entries == other.entries

    def __len__(self):
        return len(self.entries)

    def __iter__(self):
        return iter(self.entries)


def parts_at(patches, others, direction):
    """Whether a direction parts two lots."""
    check_lots(patches, others)
    direction = check_direction(direction)
    return compare(least_reach(patches, direction), greatest_low(others, direction)) < 0


def neighbours_round(patches, others):
    """Each critical direction, its next one, and whether the directions strictly between part the lots."""
    for direction, following in couples_round(critical_for(patches, others)):
        yield (direction, following, parts_at(patches, others, between_of(direction, following)))


def amount_of_step(direction, step):
    """How far a step of whole numbers leads along a direction."""
    return direction[0] * step[0] + direction[1] * step[1]


def narrowed_arc(arc, steps):
    """The arc of the directions of an arc along which no step leads back, or None if there is none or a single one.

    An arc is told by its first and its last direction, the last less than a half turn to the left of the first.
    """
    first, last = arc
    for step in steps:
        at_first, at_last = amount_of_step(first, step), amount_of_step(last, step)
        if at_first < 0 < at_last:
            first = opposite(across(step))
        elif at_last < 0 < at_first:
            last = across(step)
        elif at_first < 0 or at_last < 0:
            return None
    return (whole_direction(first[0], first[1]), whole_direction(last[0], last[1]))


def outer_steps(place, patch):
    """Steps from a place to corners of a patch: where none of them leads back along a direction, no step to it does."""
    corners = hull_corners([place, *patch.corners])
    if place not in corners:
        return [raw_step(place, corner) for corner in patch.corners]
    # All other corners lie between the two that are next to the place.
    at = corners.index(place)
    return [raw_step(place, corners[at - 1]), raw_step(place, corners[(at + 1) % len(corners)])]


def arcs_of_patches(one, other):
    """The arcs of all directions along which the first patch is nowhere below the second, each within a quarter."""
    steps = [step for place in other.corners for step in outer_steps(place, one)]
    arcs = [narrowed_arc(quarter, steps) for quarter in couples_round(AXES)]
    return [arc for arc in arcs if arc is not None]


def arcs_of_lots(patches, others):
    """Rows (first, last, index, other index): the arcs of the couples of a patch of each lot."""
    return [
        (first, last, index, other_index)
        for index, one in enumerate(patches)
        for other_index, other in enumerate(others)
        for first, last in arcs_of_patches(one, other)
    ]


def arcs_at_corner(before, corner, behind):
    """The arcs, one or two, of all directions along which a corner of a patch between two others is the lowest."""
    first, last = opposite(side_normal(before, corner)), opposite(side_normal(corner, behind))
    if turn_of(first, last) > 0:
        return [(first, last)]
    # The patch is a stretch, and the corner is the lowest for a half turn.
    middle = across(first)
    return [(first, middle), (middle, last)]


def joined_arcs(arcs):
    """As few arcs as have the same directions as some arcs in round order, each less than a half turn."""
    joined = []
    for first, last in arcs:
        if joined and joined[-1][1] == first and turn_of(joined[-1][0], last) > 0:
            joined[-1] = (joined[-1][0], last)
        else:
            joined.append((first, last))
    return joined


def arcs_to_target(patch, target):
    """The arcs of all directions along which no place of a patch is below all of a target.

    Just along these the least patch that has both in it has a corner of the target as its lowest place.
    """
    corners = hull_corners([*patch.corners, *target.corners])
    if len(corners) == 1:
        return couples_round(AXES)
    arcs = []
    for (before, corner), (_, behind) in couples_round(couples_round(corners)):
        if corner in target.corners:
            arcs.extend(arcs_at_corner(before, corner, behind))
    return joined_arcs(arcs)


def arcs_of_target(lot, target):
    """Rows (first, last, index, 0): the arcs of the patches of a lot with a target."""
    return [(first, last, index, 0) for index, patch in enumerate(lot) for first, last in arcs_to_target(patch, target)]


def farthest_arc(arcs, direction):
    """Of the arcs that have a direction and more to its left, the one that goes on farthest, or None."""
    farthest = None
    for arc in arcs:
        if turn_of(arc[0], direction) >= 0 and turn_of(direction, arc[1]) > 0:
            if farthest is None or turn_of(farthest[1], arc[1]) > 0:
                farthest = arc
    return farthest


def walk_round(arcs, start):
    """Entries from arc to arc, from a direction on, and the direction behind which no arc goes on, or None."""
    entries, direction = [], start
    while True:
        arc = farthest_arc(arcs, direction)
        if arc is None:
            return (entries, direction)
        entries.append((direction, arc[2], arc[3]))
        if turn_of(direction, start) > 0 and turn_of(start, arc[1]) >= 0:
            return (entries, None)
        direction = arc[1]


def direction_behind(arcs, direction):
    """A direction to the left of one behind which no arc goes on, ahead of the next arc."""
    nearest = across(direction)
    for arc in arcs:
        if turn_of(direction, arc[0]) > 0 and turn_of(arc[0], nearest) > 0:
            nearest = arc[0]
    return between_of(direction, nearest)


def parting_behind(patches, others, arcs, direction):
    """The Parting along a direction close to the left of one behind which no arc goes on."""
    found = direction_behind(arcs, direction)
    # Between arcs there may be single directions that do not part the lots: finitely many, so some are passed by.
    while not parts_at(patches, others, found):
        found = between_of(direction, found)
    return Parting(found, low_places(patches, found), high_places(others, found))


def part_by_arcs(patches, others, arcs):
    """What part_lots tells of two lots, of which all arcs are told."""
    entries, end = walk_round(arcs, arcs[0][0] if arcs else AXES[0])
    if end is None:
        return Round(tuple(entries))
    return parting_behind(patches, others, arcs, end)


def stone_below(lot, target, arcs):
    """The hull of places of all patches of a lot that are below a target along some direction, or None.

    The arcs of all patches with the target are told.
    """
    told = part_by_arcs(lot, corner_patches(target), arcs)
    return hull_of(told.ones) if isinstance(told, Parting) else None


def part_lots(patches, others):
    """A Parting of two lots, or a Round where no direction parts them."""
    check_lots(patches, others)
    return part_by_arcs(patches, others, arcs_of_lots(patches, others))


def has_a_place_each(lot, places):
    """Whether this is a sequence of one place for each patch of a lot."""
    return is_row(places) and len(places) == len(lot) and all([is_place(place) for place in places])


def lies_each(lot, places):
    """Whether each place lies in its patch of the lot."""
    return all([place in patch for place, patch in zip(places, lot)])


def are_below(ones, twos, direction):
    """Whether each of some places is below each of others."""
    highest = greatest_of([amount_at(direction, one) for one in ones])
    return compare(highest, least_of([amount_at(direction, two) for two in twos])) < 0


def parting_fault(patches, others, told):
    """The first thing that is wrong with a Parting of two lots, or None."""
    check_lots(patches, others)
    if not is_direction(told.direction):
        return "direction"
    if not has_a_place_each(patches, told.ones):
        return "ones"
    if not has_a_place_each(others, told.twos):
        return "twos"
    if not lies_each(patches, told.ones):
        return "one"
    if not lies_each(others, told.twos):
        return "two"
    return None if are_below(told.ones, told.twos, told.direction) else "below"


def are_entries(entries):
    """Whether this is a sequence of as many entries as a round has at least."""
    return is_row(entries) and len(entries) >= 3


def is_entry(entry, many, many_others):
    """Whether this is a sequence of a direction and two indices of lots of so many patches."""
    if not is_row(entry) or len(entry) != 3:
        return False
    return is_direction(entry[0]) and is_whole(entry[1], 0, many - 1) and is_whole(entry[2], 0, many_others - 1)


def turning_fault(directions):
    """The word for directions that do not go round just once, each to the left of the one before, or None."""
    couples = couples_round(directions)
    if any([turn_of(one, other) <= 0 for one, other in couples]):
        return "half turn"
    # Each time round, one step leads from below the line along (1, 0) to above it or on it.
    rounds = [one for one, other in couples if quarter_of(one)[0] >= 2 and quarter_of(other)[0] < 2]
    return None if len(rounds) == 1 else "round"


def is_above(one, other, directions):
    """Whether all places of the first patch are at or above all of the second, along each direction."""
    return all([compare(low_of(one, way), reach_of(other, way)) >= 0 for way in directions])


def round_fault(patches, others, told):
    """The first thing that is wrong with a Round of two lots, or None."""
    check_lots(patches, others)
    if not are_entries(told.entries):
        return "entries"
    if not all([is_entry(entry, len(patches), len(others)) for entry in told.entries]):
        return "entry"
    fault = turning_fault([entry[0] for entry in told.entries])
    if fault is not None:
        return fault
    for entry, following in couples_round(told.entries):
        if not is_above(patches[entry[1]], others[entry[2]], (entry[0], following[0])):
            return "above"
    return None
