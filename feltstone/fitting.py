"""Which stones fit a case, and the choices of places that show it."""

from feltstone.errors import BadChoice, NoStones, NotFit
from feltstone.facts import is_kept
from feltstone.patches import Patch, common_patch, hull_of, lies_in
from feltstone.places import check_place, is_place
from feltstone.ratios import is_row


def empty_patches(case):
    """The ascending numbers of the patches without a place."""
    return tuple([number for number, patch in case.patches if patch is None])


def has_stone(case):
    """Whether some stone fits."""
    return len(empty_patches(case)) == 0


def check_case(case):
    """The case, if some stone fits it."""
    if not has_stone(case):
        raise NoStones()
    return case


def full_patches(case):
    """The patches of a case, with their numbers, if each has a place."""
    return check_case(case).patches


def full_lot(case):
    """The patches of a case as a lot, if each has a place."""
    return [patch for _, patch in full_patches(case)]


def numbers_of(case):
    """The numbers of the patches of a case."""
    return [number for number, _ in case.patches]


def misfit(case, stone):
    """None if the stone fits, -1 if it leaves the table, else the number of the first fact that it does not keep."""
    if not lies_in(stone, case.table.ground):
        return -1
    for number, fact in enumerate(case.facts):
        if not is_kept(fact, stone):
            return number
    return None


def is_stone(case, thing):
    """Whether this is a patch that fits the case."""
    return isinstance(thing, Patch) and misfit(case, thing) is None


def has_as_many(case, places):
    """Whether this is a list or tuple of as many entries as the case has patches."""
    return is_row(places) and len(places) == len(case.patches)


def check_choice(case, places):
    """The choice as a tuple of places."""
    patches = full_patches(case)
    if not has_as_many(case, places):
        raise BadChoice(0)
    for index, place in enumerate(places):
        if not is_place(place) or place not in patches[index][1]:
            raise BadChoice(index)
    return tuple([check_place(place) for place in places])


def stone_of_choice(case, places):
    """The hull of a choice."""
    return hull_of(check_choice(case, places))


def choice_in(case, stone):
    """A choice whose places all lie in the stone."""
    fact = misfit(case, stone)
    if fact is not None:
        raise NotFit(fact)
    return tuple([common_patch(stone, patch).corners[0] for _, patch in case.patches])


def entry_fault(place, patch, stone):
    """What is wrong with one place of a choice in a stone, or None."""
    if not is_place(place):
        return "place"
    if patch is None or place not in patch:
        return "patch"
    if place not in stone:
        return "stone"
    return None


def choice_fault(case, stone, places):
    """The first thing that is wrong with a choice in a stone, or None."""
    if not has_as_many(case, places):
        return "many"
    for place, (_, patch) in zip(places, case.patches):
        fault = entry_fault(place, patch, stone)
        if fault is not None:
            return fault
    return None


def choice_of_number(rows, number):
    """One place of each row: the choices are counted from 0 on, and the last row's place changes first."""
    chosen = []
    for corners in rows[::-1]:
        number, at = divmod(number, len(corners))
        chosen.append(corners[at])
    return tuple(chosen[::-1])


def corner_choices(case):
    """All choices of corners, one by one; the corner of the last patch changes first."""
    rows = [patch.corners for _, patch in full_patches(case)]
    many = 1
    for corners in rows:
        many *= len(corners)
    for number in range(many):
        yield choice_of_number(rows, number)
