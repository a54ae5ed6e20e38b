"""The book: facts that are put and taken back one by one, and trials that leave no trace."""

from feltstone.cases import MOST_FACTS, Case
from feltstone.errors import BadFact, BookFull, NoNumber
from feltstone.facts import is_fact
from feltstone.fitting import has_stone
from feltstone.ratios import is_number_in
from feltstone.sure import sure_places
from feltstone.wishes import broken_wish


class Moment:
    """How a book was when a trial began, and the moment of the trial round that one."""

    def __init__(self, book):
        self.case = book.case
        self.standing = book.standing
        self.log = book.log
        self.given = book.given
        self.before = book.moment


class Trial:
    """What one does with a book within a block is undone at the end of the block."""

    def __init__(self, book):
        self.book = book

    def __enter__(self):
        self.book.moment = Moment(self.book)
        return self.book

    def __exit__(self, kind, value, trace):
        self.book.case = self.book.moment.case
        self.book.standing = self.book.moment.standing
        self.book.log = self.book.moment.log
        self.book.given = self.book.moment.given
        self.book.moment = self.book.moment.before


class Book:
    """The facts that stand on a table, and all that was put and taken back."""

    def __init__(self, table):
        self.table = table
        self.case = Case(table, ())
        self.standing = ()
        self.log = ()
        self.given = 0
        self.moment = None

    def __len__(self):
        return len(self.standing)

    def __iter__(self):
        return iter(self.standing)

    def put(self, fact):
        """Put a fact behind those that stand; its number."""
        if not is_fact(fact):
            raise BadFact("fact")
        if len(self.standing) == MOST_FACTS:
            raise BookFull()
        self.case = self.case.with_fact(fact)
        self.given += 1
        self.standing = (*self.standing, (self.given, fact))
        self.log = (*self.log, ("put", self.given, fact))
        return self.given

    def take_back(self, number):
        """Take a fact that stands out."""
        numbers = [known for known, _ in self.standing]
        if not is_number_in(number, numbers):
            raise NoNumber(number)
        index = numbers.index(number)
        self.case = self.case.without_fact(index)
        self.log = (*self.log, ("back", number, self.standing[index][1]))
        self.standing = (*self.standing[:index], *self.standing[index + 1:])

    def whole_now(self):
        """The whole of the case, or None if no stone fits."""
        return self.case.whole if has_stone(self.case) else None

    def sure_now(self):
        """The patch of the sure places, or None if there are none or no stone fits."""
        return sure_places(self.case) if has_stone(self.case) else None

    def broken_now(self, wishes):
        """None if the case grants all wishes, else the first that it does not grant, and why."""
        return broken_wish(self.case, wishes)

    def trial(self):
        """An object for a block of with, within which the book may change without a trace."""
        return Trial(self)

    def tried(self, call):
        """What a function returns for the book within a trial."""
        with self.trial() as book:
            return call(book)
