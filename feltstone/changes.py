"""Changes of a case: facts that are put and facts that are struck."""

from feltstone.cases import MOST_FACTS, Case
from feltstone.errors import BadChange
from feltstone.facts import is_fact
from feltstone.ratios import is_row, is_whole

MOST_CHANGES = 100
WORDS = ("put", "strike")


def is_change_row(change):
    """Whether this is a sequence of a word of a change and one thing more."""
    if not is_row(change) or len(change) != 2:
        return False
    return isinstance(change[0], str) and change[0] in WORDS


def change_word(case, change, many):
    """What is wrong with a change of a case which has so many facts with those put before, or None."""
    if not is_change_row(change):
        return "change"
    word, thing = change
    if word == "strike":
        return None if is_whole(thing, 0, len(case) - 1) else "number"
    if not is_fact(thing):
        return "fact"
    return "full" if many == MOST_FACTS else None


def check_changes(case, changes):
    """The changes as a tuple of tuples."""
    if not is_row(changes) or len(changes) > MOST_CHANGES:
        raise BadChange(0, "many")
    many = len(case)
    for index, change in enumerate(changes):
        what = change_word(case, change, many)
        if what is not None:
            raise BadChange(index, what)
        if change[0] == "put":
            many += 1
    return tuple([(word, thing) for word, thing in changes])


def case_after(case, changes):
    """The case with all changes made: what is not struck, and behind it what is put."""
    changes = check_changes(case, changes)
    struck = [thing for word, thing in changes if word == "strike"]
    put = [thing for word, thing in changes if word == "put"]
    return Case(case.table, [*case.without_facts(struck).facts, *put])
