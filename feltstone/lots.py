"""Lots of numbers: ascending tuples of them."""


def lots_among(numbers, most):
    """All lots of at most so many of some ascending numbers: shorter ones first, those of one length ascending."""
    lots, longest = [()], [()]
    for _ in range(most):
        longest = [(*lot, number) for lot in longest for number in numbers if not lot or number > lot[-1]]
        lots.extend(longest)
    return lots


def is_ascending(row):
    """Whether each entry is above the one before it."""
    return all([one < other for one, other in zip(row, row[1:])])


def has_all(lot, numbers):
    """Whether all of the numbers stand in the lot."""
    return all([number in lot for number in numbers])


def has_each(lot, rows):
    """Whether a lot has a number of each row."""
    return all([any([number in lot for number in row]) for row in rows])


def in_all(lots):
    """The lot of the numbers that stand in each of some lots; none if there are no lots."""
    return tuple([number for number in lots[0] if has_each((number,), lots)]) if lots else ()
