"""Liars: lots of facts without which a case has a stone."""

from feltstone.errors import BadMost
from feltstone.fitting import has_stone
from feltstone.lots import has_all, has_each, is_ascending, lots_among
from feltstone.quarrels import quarrels_of
from feltstone.ratios import is_whole

MOST_LIARS = 3


def check_most(most):
    """The greatest number of liars."""
    if not is_whole(most, 0, MOST_LIARS):
        raise BadMost()
    return most


def quarrels_against(case):
    """The quarrels of a case, none if it has a stone."""
    return () if has_stone(case) else quarrels_of(case)


def least_lots(case, most, quarrels):
    """The lots of at most so many facts that have a fact of each quarrel, and of which no proper part has."""
    found = []
    for lot in lots_among(list(range(len(case))), most):
        # Shorter lots come first, so all least ones that may be a part of this one are found already.
        if has_each(lot, quarrels) and not any([has_all(lot, least) for least in found]):
            found.append(lot)
    return tuple(found)


def lots_of_liars(case, most):
    """All least lots of liars: shorter ones first, those of one length ascending."""
    return least_lots(case, check_most(most), quarrels_against(case))


def is_fact_lot(case, most, lot):
    """Whether this is an ascending tuple of at most so many unlike numbers of facts of a case."""
    if not isinstance(lot, tuple) or len(lot) > most:
        return False
    return all([is_whole(number, 0, len(case) - 1) for number in lot]) and is_ascending(lot)


def are_unlike(row):
    """Whether no two entries of a row are equal."""
    return all([row[at] not in row[:at] for at in range(len(row))])


def has_part(lot, lots):
    """Whether one of some lots is a proper part of a lot."""
    return any([one != lot and has_all(lot, one) for one in lots])


def liars_fault(case, most, lots):
    """The first thing that is wrong with what is told as all least lots of liars, in any order, or None."""
    check_most(most)
    if not isinstance(lots, tuple) or not all([is_fact_lot(case, most, lot) for lot in lots]) or not are_unlike(lots):
        return "lots"
    quarrels = quarrels_against(case)
    if not all([has_each(lot, quarrels) for lot in lots]):
        return "stone"
    if any([has_part(lot, lots) for lot in lots]):
        return "within"
    return None if has_all(lots, least_lots(case, most, quarrels)) else "lacking"
