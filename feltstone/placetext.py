"""Places and patches as texts, and read from texts."""

from feltstone.errors import BadPatch, BadRatio, BadText
from feltstone.patches import Patch
from feltstone.ratios import ratio_of, ratio_text


def check_text(text):
    """Raise BadText if this is no text."""
    if not isinstance(text, str):
        raise BadText(0, "text")


def place_text(place):
    """The texts of both numbers with a comma between."""
    return ratio_text(place[0]) + "," + ratio_text(place[1])


def place_or_none(text):
    """The place whose text is just this one, or None if no place has it."""
    x, _, y = text.partition(",")
    try:
        return (ratio_of(x), ratio_of(y))
    except BadRatio:
        return None


def place_of(text):
    """The place whose text is just this one."""
    check_text(text)
    place = place_or_none(text)
    if place is None:
        raise BadText(0, "place")
    return place


def patch_text(patch):
    """The texts of the corners, with one blank between."""
    return " ".join([place_text(corner) for corner in patch.corners])


def read_patch(text):
    """The patch whose text is just this one, or None if no patch has it."""
    try:
        return Patch([place_or_none(part) for part in text.split(" ")])
    except BadPatch:
        return None


def patch_of(text):
    """The patch whose text is just this one."""
    check_text(text)
    patch = read_patch(text)
    if patch is None:
        raise BadText(0, "patch")
    return patch
