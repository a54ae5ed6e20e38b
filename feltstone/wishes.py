"""Wishes of what is known of the stone, and which of them a case does not grant."""

from feltstone.errors import BadWish
from feltstone.facts import is_fact, is_kept
from feltstone.fitting import has_stone, is_stone
from feltstone.follow import follows
from feltstone.places import check_place, is_place
from feltstone.quarrels import Quarrel, quarrel_fault, some_quarrel
from feltstone.ratios import is_row, is_whole
from feltstone.sure import Missed, sure_of
from feltstone.telling import Several, one_stone, one_stone_fault

MOST_WISHES = 6
LONE_WORDS = ("stone", "single")
PLACE_WORDS = ("sure", "possible", "lacking")
FACT_WORDS = ("follows", "free", "barred")


class Broken:
    """The first wish that a case does not grant, and what shows it."""

    def __init__(self, index, why):
        self.index = index
        self.why = why

    def __eq__(self, other):
        return isinstance(other, Broken) and self.index == other.index and self.why == other.why


def is_wish(thing):
    """Whether this is a wish."""
    if not is_row(thing) or len(thing) == 0 or not isinstance(thing[0], str):
        return False
    if thing[0] in LONE_WORDS:
        return len(thing) == 1
    if thing[0] in PLACE_WORDS:
        return len(thing) == 2 and is_place(thing[1])
    return thing[0] in FACT_WORDS and len(thing) == 2 and is_fact(thing[1])


def wish_row(wish):
    """A wish as a tuple, with its place as a tuple."""
    if wish[0] in PLACE_WORDS:
        return (wish[0], check_place(wish[1]))
    return tuple(wish)


def check_wishes(wishes):
    """The wishes as a tuple of tuples."""
    if not is_row(wishes) or not 1 <= len(wishes) <= MOST_WISHES:
        raise BadWish(0)
    for index, wish in enumerate(wishes):
        if not is_wish(wish):
            raise BadWish(index)
    return tuple([wish_row(wish) for wish in wishes])


def granting_place(case, word, place):
    """Couple (granted, why) for a wish of a place."""
    if word == "sure":
        told = sure_of(case, place)
        return (False, told.stone) if isinstance(told, Missed) else (True, None)
    if word == "possible":
        return (place in case.whole, None)
    return (False, case.whole) if place in case.whole else (True, None)


def granting_fact(case, word, fact):
    """Couple (granted, why) for a wish of a fact."""
    answer = follows(case, fact)
    if word == "follows":
        return (answer.breaking is None, answer.breaking)
    if word == "barred":
        return (answer.keeping is None, answer.keeping)
    return (answer.breaking is not None, None)


def granting_alone(case, word):
    """Couple (granted, why) for a wish of neither a place nor a fact."""
    told = one_stone(case) if word == "single" else None
    return (False, told) if isinstance(told, Several) else (True, None)


def granting(case, wish):
    """Couple (granted, why) for a wish, if the case has a stone; why shows that it is not granted, if that needs it."""
    if wish[0] in LONE_WORDS:
        return granting_alone(case, wish[0])
    if wish[0] in PLACE_WORDS:
        return granting_place(case, wish[0], wish[1])
    return granting_fact(case, wish[0], wish[1])


def broken_wish(case, wishes):
    """None if a case grants all wishes, else the first that it does not grant, and why."""
    wishes = check_wishes(wishes)
    if not has_stone(case):
        return Broken(0, some_quarrel(case))
    for index, wish in enumerate(wishes):
        granted, why = granting(case, wish)
        if not granted:
            return Broken(index, why)
    return None


def shows_place(word, place, stone):
    """Whether a stone that fits shows that a wish of a place is not granted."""
    return (place in stone) == (word == "lacking")


def shows_fact(word, fact, stone):
    """Whether a stone that fits shows that a wish of a fact is not granted."""
    return is_kept(fact, stone) == (word == "barred")


def shows(case, wish, why):
    """Whether this shows that a case which has a stone does not grant a wish."""
    if wish[0] in LONE_WORDS:
        return wish[0] == "single" and isinstance(why, Several) and one_stone_fault(case, why) is None
    if wish[0] in ("possible", "free"):
        return why is None and not granting(case, wish)[0]
    if not is_stone(case, why):
        return False
    if wish[0] in PLACE_WORDS:
        return shows_place(wish[0], wish[1], why)
    return shows_fact(wish[0], wish[1], why)


def shows_quarrel(case, why):
    """Whether this is a quarrel of a case."""
    return isinstance(why, Quarrel) and quarrel_fault(case, why.facts) is None


def broken_fault(case, wishes, broken):
    """The first thing that keeps a Broken from showing that the wish with its index is not granted, or None."""
    wishes = check_wishes(wishes)
    if not isinstance(broken, Broken):
        return "broken"
    if not is_whole(broken.index, 0, len(wishes) - 1):
        return "index"
    if not has_stone(case):
        return None if shows_quarrel(case, broken.why) else "why"
    return None if shows(case, wishes[broken.index], broken.why) else "why"
