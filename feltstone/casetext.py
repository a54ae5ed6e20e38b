"""Facts and cases as texts, and read from texts."""

from feltstone.cases import MOST_FACTS, Case
from feltstone.errors import BadRatio, BadTable, BadText
from feltstone.facts import MOST_CORNERS, Meets, Ruler, Within
from feltstone.placetext import check_text, patch_text, place_or_none, place_text, read_patch
from feltstone.places import is_direction
from feltstone.ratios import ratio_of, ratio_text, whole_text
from feltstone.tables import Table


def half_text(half):
    """The texts of a direction and an amount."""
    direction, amount = half
    return whole_text(direction[0]) + "," + whole_text(direction[1]) + " " + ratio_text(amount)


def fact_text(fact):
    """The text of a fact: its word, and what it tells."""
    if isinstance(fact, Meets):
        return "meets " + patch_text(fact.patch)
    word = "ruler " if isinstance(fact, Ruler) else "within "
    return word + half_text(fact.half)


def direction_or_none(text):
    """The direction whose text is just this one, or None if no direction has it."""
    place = place_or_none(text)
    if place is None or place[0][1] != 1 or place[1][1] != 1:
        return None
    direction = (place[0][0], place[1][0])
    return direction if is_direction(direction) else None


def half_in_row(row, text):
    """The direction and the amount that the text of a within or a ruler tells behind its word."""
    parts = text.split(" ")
    if len(parts) != 3:
        raise BadText(row, "parts")
    direction = direction_or_none(parts[1])
    if direction is None:
        raise BadText(row, "direction")
    try:
        return (direction, ratio_of(parts[2]))
    except BadRatio:
        raise BadText(row, "amount") from None


def fact_in_row(row, text):
    """The fact whose text is just this one; the row is told if there is none."""
    word, _, rest = text.partition(" ")
    if word not in ("within", "ruler", "meets"):
        raise BadText(row, "word")
    if word == "meets":
        patch = read_patch(rest)
        if patch is None or len(patch) > MOST_CORNERS:
            raise BadText(row, "patch")
        return Meets(patch)
    direction, amount = half_in_row(row, text)
    return Within(direction, amount) if word == "within" else Ruler(direction, amount)


def fact_of(text):
    """The fact whose text is just this one."""
    check_text(text)
    return fact_in_row(0, text)


def case_text(case):
    """The text of a case: a row for its table, then a row for each fact."""
    table = "table " + place_text(case.table.low) + " " + place_text(case.table.high)
    return "\n".join([table, *[fact_text(fact) for fact in case.facts]])


def table_in_text(text):
    """The table that the first row of a case's text tells."""
    parts = text.split(" ")
    if len(parts) != 3 or parts[0] != "table":
        raise BadText(0, "table")
    try:
        return Table(place_or_none(parts[1]), place_or_none(parts[2]))
    except BadTable:
        raise BadText(0, "table") from None


def case_of(text):
    """The case whose text is just this one."""
    check_text(text)
    rows = text.split("\n")
    table = table_in_text(rows[0])
    facts = [fact_in_row(row, rows[row]) for row in range(1, len(rows))]
    if len(facts) > MOST_FACTS:
        raise BadText(MOST_FACTS + 1, "many")
    return Case(table, facts)
