"""What is claimed of the stone: whether all stones that fit keep it, some, or none."""

from feltstone.critical import greatest_low, high_places, least_reach, low_places
from feltstone.errors import BadClaim
from feltstone.facts import Meets, Ruler, is_fact, is_kept
from feltstone.fitting import full_lot, misfit
from feltstone.patches import Patch, common_patch, corner_patches, cut_patch, hull_of, lies_in, low_of, reach_of
from feltstone.places import check_direction, is_direction
from feltstone.ratios import compare, is_ratio, is_row
from feltstone.rounds import Parting, part_lots

WORDS = ("crosses", "meets", "holds", "inside", "fact")


class Answer:
    """A stone that fits and keeps a claim, and one that fits and does not; None where there is no such stone."""

    def __init__(self, keeping, breaking):
        self.keeping = keeping
        self.breaking = breaking

    def __eq__(self, other):
        return isinstance(other, Answer) and self.keeping == other.keeping and self.breaking == other.breaking

    @property
    def verdict(self):
        """Whether all stones that fit keep the claim, none, or some."""
        if self.breaking is None:
            return "always"
        return "never" if self.keeping is None else "maybe"


def is_claim_row(claim):
    """Whether this is a sequence that begins with a claim's word and is as long as such a claim."""
    if not is_row(claim) or len(claim) == 0 or not isinstance(claim[0], str) or claim[0] not in WORDS:
        return False
    return len(claim) == (3 if claim[0] == "crosses" else 2)


def check_claim(claim):
    """The claim as a tuple."""
    if not is_claim_row(claim):
        raise BadClaim("claim")
    word, thing = claim[0], claim[1]
    if word == "crosses":
        if not is_direction(thing):
            raise BadClaim("direction")
        if not is_ratio(claim[2]):
            raise BadClaim("amount")
        return (word, check_direction(thing), claim[2])
    if word == "fact":
        if not is_fact(thing):
            raise BadClaim("fact")
    elif not isinstance(thing, Patch):
        raise BadClaim("patch")
    return (word, thing)


def has_amount(patch, direction, amount):
    """Whether some place of a patch has just this amount."""
    return compare(low_of(patch, direction), amount) <= 0 <= compare(reach_of(patch, direction), amount)


def keeps_claim(stone, claim):
    """Whether a stone keeps the claim."""
    claim = check_claim(claim)
    word, thing = claim[0], claim[1]
    if word == "crosses":
        return has_amount(stone, thing, claim[2])
    if word == "meets":
        return common_patch(stone, thing) is not None
    if word == "holds":
        return lies_in(thing, stone)
    if word == "inside":
        return lies_in(stone, thing)
    return is_kept(thing, stone)


def low_stone(lot, direction):
    """A stone that fits with the least reach."""
    return hull_of(low_places(lot, direction))


def high_stone(lot, direction):
    """A stone that fits with the greatest low end."""
    return hull_of(high_places(lot, direction))


def answer_crosses(lot, direction, amount):
    """The Answer to whether the stone has a place with the amount."""
    keeping = lot[0] if has_amount(lot[0], direction, amount) else None
    breaking = None
    if compare(least_reach(lot, direction), amount) < 0:
        breaking = low_stone(lot, direction)
    elif compare(greatest_low(lot, direction), amount) > 0:
        breaking = high_stone(lot, direction)
    return Answer(keeping, breaking)


def answer_meets(lot, patch):
    """The Answer to whether the stone has a place in the patch."""
    common = common_patch(lot[0], patch)
    if common is None:
        return Answer(None, lot[0])
    # A stone that misses the patch is below all of it along some direction, so below all its corners.
    told = part_lots(lot, corner_patches(common))
    return Answer(lot[0], hull_of(told.ones) if isinstance(told, Parting) else None)


def stone_without_some(lot, places):
    """A stone that fits and lacks one of the places, or None."""
    for place in places:
        told = part_lots(lot, (Patch((place,)),))
        if isinstance(told, Parting):
            return hull_of(told.ones)
    return None


def answer_holds(lot, patch):
    """The Answer to whether the patch lies in the stone."""
    if lies_in(patch, lot[0]):
        return Answer(lot[0], stone_without_some(lot, patch.corners))
    return Answer(None, lot[0])


def answer_inside(lot, patch):
    """The Answer to whether the stone lies in the patch."""
    keeping = None
    if all([common_patch(own, patch) is not None for own in lot]):
        keeping = common_patch(lot[0], patch)
    return Answer(keeping, None if lies_in(lot[0], patch) else lot[0])


def answer_within(lot, direction, amount):
    """The Answer to whether the stone reaches no farther than the amount."""
    low = low_stone(lot, direction)
    keeping = low if compare(reach_of(low, direction), amount) <= 0 else None
    breaking = lot[0] if compare(reach_of(lot[0], direction), amount) > 0 else None
    return Answer(keeping, breaking)


def answer_ruler(lot, direction, amount):
    """The Answer to whether the stone reaches just to the amount."""
    low, keeping = low_stone(lot, direction), None
    least = compare(reach_of(low, direction), amount)
    greatest = compare(reach_of(lot[0], direction), amount)
    if least <= 0 <= greatest:
        keeping = cut_patch(lot[0], direction, amount)
    if greatest != 0:
        return Answer(keeping, lot[0])
    return Answer(keeping, low if least != 0 else None)


def answer_fact(lot, fact):
    """The Answer to whether the stone keeps the fact; the patches of a case are told, the whole first."""
    if isinstance(fact, Meets):
        return answer_meets(lot, fact.patch)
    if isinstance(fact, Ruler):
        return answer_ruler(lot, fact.direction, fact.amount)
    return answer_within(lot, fact.direction, fact.amount)


def answer_of(case, claim):
    """Stones that fit and keep the claim, and that do not, where there are such."""
    claim = check_claim(claim)
    lot = full_lot(case)
    word, thing = claim[0], claim[1]
    if word == "crosses":
        return answer_crosses(lot, thing, claim[2])
    if word == "meets":
        return answer_meets(lot, thing)
    if word == "holds":
        return answer_holds(lot, thing)
    if word == "inside":
        return answer_inside(lot, thing)
    return answer_fact(lot, thing)


def part_fault(case, claim, told, right, keeps):
    """What is wrong with one part of an Answer, or None; a right part is told, and whether it keeps the claim."""
    if told is None:
        return None if right is None else "lacking"
    if misfit(case, told) is not None:
        return "fit"
    return None if keeps_claim(told, claim) == keeps else "wrong"


def answer_fault(case, claim, answer):
    """The part of an Answer that is wrong and what is wrong with it, or None."""
    right = answer_of(case, claim)
    rows = (("keeping", answer.keeping, right.keeping, True), ("breaking", answer.breaking, right.breaking, False))
    for which, told, part, keeps in rows:
        what = part_fault(case, claim, told, part, keeps)
        if what is not None:
            return (which, what)
    return None
