"""Mends: choices of a pool of changes behind which a case grants all wishes."""

from feltstone.changes import case_after, check_changes
from feltstone.errors import BadChange
from feltstone.lots import has_all, in_all, is_ascending, lots_among
from feltstone.ratios import is_row, is_whole
from feltstone.wishes import broken_fault, broken_wish, check_wishes

MOST_IN_POOL = 5


class Mends:
    """The least choices of a pool, and what is not granted behind those that have none of them as a part."""

    def __init__(self, least, losses):
        self.least = least
        self.losses = losses

    def __eq__(self, other):
        return isinstance(other, Mends) and self.least == other.least and self.losses == other.losses

    @property
    def needed(self):
        """The indices that are in every least choice."""
        return in_all(self.least)


class Spoiler:
    """A least choice and an index with which it is no longer good, and what is not granted then."""

    def __init__(self, choice, added, broken):
        self.choice = choice
        self.added = added
        self.broken = broken

    def __eq__(self, other):
        return (
            isinstance(other, Spoiler) and self.choice == other.choice
            and self.added == other.added and self.broken == other.broken
        )


def check_pool(case, pool):
    """The pool of changes of a case as a tuple of tuples."""
    if not is_row(pool) or not 1 <= len(pool) <= MOST_IN_POOL:
        raise BadChange(0, "pool")
    return check_changes(case, pool)


def choices_of(pool):
    """All choices of a pool, in order."""
    return lots_among(list(range(len(pool))), len(pool))


def case_behind(case, pool, choice):
    """The case behind a choice of a pool."""
    return case_after(case, [pool[index] for index in choice])


def broken_behind(case, pool, choice, wishes):
    """None if the case behind a choice grants all wishes, else what it does not grant."""
    return broken_wish(case_behind(case, pool, choice), wishes)


def has_one_of(choice, choices):
    """Whether some of the choices is a part of a choice, or the choice itself."""
    return any([has_all(choice, one) for one in choices])


def mends_of(case, pool, wishes):
    """What find_mends tells of a pool and wishes that are checked."""
    least, losses = [], []
    for choice in choices_of(pool):
        # Shorter choices come first, so all least ones that may be a part of this one are found already.
        if not has_one_of(choice, least):
            broken = broken_behind(case, pool, choice, wishes)
            if broken is None:
                least.append(choice)
            else:
                losses.append((choice, broken))
    return Mends(tuple(least), tuple(losses))


def find_mends(case, pool, wishes):
    """All least choices of a pool, and what is not granted behind those that have none of them as a part."""
    pool = check_pool(case, pool)
    return mends_of(case, pool, check_wishes(wishes))


def is_choice(pool, thing):
    """Whether this is a choice of a pool."""
    if not isinstance(thing, tuple) or not all([is_whole(index, 0, len(pool) - 1) for index in thing]):
        return False
    return is_ascending(thing)


def are_choices(pool, things):
    """Whether these are unlike choices of a pool in order."""
    if not all([is_choice(pool, thing) for thing in things]):
        return False
    return is_ascending([(len(choice), choice) for choice in things])


def are_mends(pool, mends):
    """Whether this is a Mends of choices of a pool, each row of them in order."""
    if not isinstance(mends, Mends) or not isinstance(mends.least, tuple) or not isinstance(mends.losses, tuple):
        return False
    if not all([is_row(loss) and len(loss) == 2 for loss in mends.losses]):
        return False
    return are_choices(pool, mends.least) and are_choices(pool, [choice for choice, _ in mends.losses])


def are_apart(least, lost):
    """Whether no least choice has another one as a part, and no lost one has a least one as a part."""
    if any([one != other and has_all(one, other) for one in least for other in least]):
        return False
    return not any([has_one_of(choice, least) for choice in lost])


def mends_fault(case, pool, wishes, mends):
    """The first thing that is wrong with a Mends of a pool, or None."""
    pool = check_pool(case, pool)
    wishes = check_wishes(wishes)
    if not are_mends(pool, mends):
        return "mends"
    lost = [choice for choice, _ in mends.losses]
    if not are_apart(mends.least, lost):
        return "within"
    if not all([has_one_of(choice, mends.least) or choice in lost for choice in choices_of(pool)]):
        return "lacking"
    if any([broken_behind(case, pool, choice, wishes) is not None for choice in mends.least]):
        return "good"
    faults = [broken_fault(case_behind(case, pool, choice), wishes, broken) for choice, broken in mends.losses]
    return "broken" if any([fault is not None for fault in faults]) else None


def find_spoilers(case, pool, wishes):
    """For each least choice each further index with which it is not good, with what is not granted then."""
    pool = check_pool(case, pool)
    wishes = check_wishes(wishes)
    spoilers = []
    for choice in mends_of(case, pool, wishes).least:
        for added in range(len(pool)):
            if added not in choice:
                broken = broken_behind(case, pool, tuple(sorted([*choice, added])), wishes)
                if broken is not None:
                    spoilers.append(Spoiler(choice, added, broken))
    return tuple(spoilers)
