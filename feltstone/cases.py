"""Cases: a table and the facts that were felt on it."""

from feltstone.errors import BadCase, NoFact
from feltstone.facts import Meets, Ruler, Within, is_fact
from feltstone.patches import halves_of, line_patch, part_in_halves
from feltstone.ratios import is_row, is_whole
from feltstone.tables import Table

MOST_FACTS = 12


def check_parts(table, facts):
    """Raise the first error of the table and the facts, if there is one."""
    if not isinstance(table, Table):
        raise BadCase(0, "table")
    if not is_row(facts) or len(facts) > MOST_FACTS:
        raise BadCase(0, "many")
    for number, fact in enumerate(facts):
        if not is_fact(fact):
            raise BadCase(number, "fact")


def whole_of(table, facts):
    """The patch of all places of the table that no fact shuts out, or None."""
    return part_in_halves(table.ground, [fact.half for fact in facts if not isinstance(fact, Meets)])


def patch_of_fact(whole, halves, fact):
    """The patch of a ruler or a meets, cut to the whole with these halves, or None."""
    if whole is None:
        return None
    if isinstance(fact, Ruler):
        return line_patch(whole, fact.direction, fact.amount)
    return part_in_halves(fact.patch, halves)


def patches_of(whole, facts):
    """The patches of a case, each with its number."""
    halves = () if whole is None else halves_of(whole)
    own = [
        (number, patch_of_fact(whole, halves, fact))
        for number, fact in enumerate(facts)
        if not isinstance(fact, Within)
    ]
    return ((-1, whole), *own)


class Case:
    """A table and a row of facts, with all that they say of the places of the table."""

    def __init__(self, table, facts):
        check_parts(table, facts)
        self.table = table
        self.facts = tuple(facts)
        self.whole = whole_of(table, self.facts)
        self.patches = patches_of(self.whole, self.facts)

    def __len__(self):
        return len(self.facts)

    def __iter__(self):
        return iter(self.facts)

    def __eq__(self, other):
        return isinstance(other, Case) and self.table == other.table and self.facts == other.facts

    def patch_at(self, number):
        """The patch of this number, or None if it has no place."""
        if is_whole(number):
            for known, patch in self.patches:
                if known == number:
                    return patch
        raise NoFact(number)

    def with_fact(self, fact):
        """The case with a fact put behind the others."""
        return Case(self.table, (*self.facts, fact))

    def with_facts(self, facts):
        """The case with several facts put behind the others."""
        if not is_row(facts):
            raise BadCase(0, "many")
        return Case(self.table, (*self.facts, *facts))

    def with_table(self, table):
        """The case with another table."""
        return Case(table, self.facts)

    def without_fact(self, number):
        """The case without the fact of this number."""
        return self.without_facts((number,))

    def without_facts(self, numbers):
        """The case without the facts of these numbers."""
        if not is_row(numbers):
            raise NoFact(numbers)
        for number in numbers:
            if not is_whole(number, 0, len(self.facts) - 1):
                raise NoFact(number)
        return Case(self.table, [fact for number, fact in enumerate(self.facts) if number not in numbers])

    def shifted(self, step):
        """The case with its table and all facts moved by the step."""
        return Case(self.table.shifted(step), [fact.shifted(step) for fact in self.facts])

    def turned(self):
        """The case with its table and all facts turned left by a quarter about (0, 0)."""
        return Case(self.table.turned(), [fact.turned() for fact in self.facts])

    def mirrored(self):
        """The case with its table and all facts mirrored."""
        return Case(self.table.mirrored(), [fact.mirrored() for fact in self.facts])

    def grown(self, size):
        """The case with its table and all facts grown by a size above 0."""
        return Case(self.table.grown(size), [fact.grown(size) for fact in self.facts])
