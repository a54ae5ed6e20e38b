"""[10.11] and [10.12] The book and its trials."""

import unittest

from feltstone.book import Book
from feltstone.cases import Case
from feltstone.errors import BadFact, BadWish, BookFull, FeltError, NoNumber
from feltstone.fitting import has_stone
from feltstone.patches import lies_in
from feltstone.sure import sure_places
from feltstone.wishes import Broken, broken_wish
from tests.made_cases import FOUR, TABLE, some_fact, twelve_facts
from tests.makers import JUNK, SQUARE, meets, p, patch, ruler, source, within
from tests.results import check_errors
from tests.test_wishes import ALL


def state(book):
    """All that can be asked of a book, but for the number that comes next."""
    return (book.table, book.case, book.standing, book.log, len(book), list(book))


def next_number(book):
    """The number that comes next, asked of a book with room without a trace."""
    return book.tried(lambda one: one.put(FOUR[0]))


def filled(*facts):
    book = Book(TABLE)
    for fact in facts:
        book.put(fact)
    return book


class Puts(unittest.TestCase):
    def test_a_new_book(self):
        book = Book(table=TABLE)
        self.assertEqual(state(book), (TABLE, Case(TABLE, ()), (), (), 0, []))
        self.assertIs(book.table, TABLE)
        self.assertEqual(book.whole_now(), TABLE.ground)
        self.assertIsNone(book.sure_now())

    def test_numbers_and_order(self):
        book = Book(TABLE)
        self.assertEqual([book.put(fact=fact) for fact in FOUR], [1, 2, 3, 4])
        self.assertIsNone(book.take_back(number=2))
        self.assertEqual(book.standing, ((1, FOUR[0]), (3, FOUR[2]), (4, FOUR[3])))
        self.assertEqual(book.put(FOUR[1]), 5)
        self.assertEqual(book.standing, ((1, FOUR[0]), (3, FOUR[2]), (4, FOUR[3]), (5, FOUR[1])))
        self.assertEqual(book.case, Case(TABLE, [FOUR[0], FOUR[2], FOUR[3], FOUR[1]]))
        book.take_back(5)
        book.take_back(1)
        self.assertEqual([number for number, _ in book], [3, 4])
        self.assertEqual(book.put(FOUR[0]), 6)
        self.assertEqual(len(book), 3)
        self.assertEqual(book.log, (("put", 1, FOUR[0]), ("put", 2, FOUR[1]), ("put", 3, FOUR[2]), ("put", 4, FOUR[3]), ("back", 2, FOUR[1]),
                                    ("put", 5, FOUR[1]), ("back", 5, FOUR[1]), ("back", 1, FOUR[0]), ("put", 6, FOUR[0])))
        self.assertTrue(all(type(row) is tuple for row in book.standing + book.log))

    def test_all_taken_back(self):
        book = filled(*FOUR)
        for number in (3, 1, 4, 2):
            book.take_back(number)
        self.assertEqual((book.case, book.standing, len(book), list(book)), (Case(TABLE, ()), (), 0, []))
        self.assertEqual(book.put(FOUR[0]), 5)

    def test_the_same_fact_several_times(self):
        book = filled(FOUR[0], FOUR[0], FOUR[0])
        book.take_back(2)
        self.assertEqual(book.standing, ((1, FOUR[0]), (3, FOUR[0])))

    def test_twelve_facts_and_one_more(self):
        book = filled(*FOUR * 3)
        before = state(book)
        with self.assertRaises(BookFull):
            book.put(FOUR[0])
        self.assertEqual(state(book), before)
        book.take_back(7)
        self.assertEqual(book.put(FOUR[0]), 13)
        self.assertEqual([number for number, _ in book], [1, 2, 3, 4, 5, 6, 8, 9, 10, 11, 12, 13])

    def test_a_call_that_raises_changes_nothing(self):
        for facts in ((), FOUR, FOUR * 3):
            book = filled(*facts)
            before = state(book)
            wrong = JUNK + [1, SQUARE, FOUR[0].half, [FOUR[0]], book]
            rows = [(lambda thing=thing: book.put(thing), BadFact, "fact") for thing in wrong]
            rows += [(lambda number=number: book.take_back(number), NoNumber, number) for number in JUNK + [0, -1, len(facts) + 1, 1.0, "1", (1,)]]
            rows += [(lambda wishes=wishes: book.broken_now(wishes), BadWish, 0) for wishes in (None, [], [None])]
            check_errors(self, rows)
            self.assertEqual(state(book), before)
            if len(book) < 12:
                self.assertEqual(book.put(FOUR[0]), len(facts) + 1)

    def test_a_number_that_no_longer_stands(self):
        book = filled(*FOUR)
        book.take_back(2)
        check_errors(self, [(lambda number=number: book.take_back(number), NoNumber, number) for number in (2, 5, True)])
        book.take_back(1)

    def test_two_books(self):
        one, other = Book(TABLE), Book(TABLE)
        one.put(FOUR[0])
        self.assertEqual((len(one), len(other), other.put(FOUR[1])), (1, 0, 1))
        self.assertEqual(one.standing, ((1, FOUR[0]),))


class Now(unittest.TestCase):
    def check(self, book):
        self.assertEqual(book.case, Case(TABLE, [fact for _, fact in book.standing]))
        if has_stone(book.case):
            self.assertEqual(book.whole_now(), book.case.whole)
            self.assertEqual(book.sure_now(), sure_places(book.case))
        else:
            self.assertIsNone(book.whole_now())
            self.assertIsNone(book.sure_now())
        for wishes in (ALL[:3], ALL[3:]):
            self.assertEqual(book.broken_now(wishes=wishes) is None, broken_wish(book.case, wishes) is None)

    def test_along_the_way(self):
        picks = source(971)
        for _ in range(12):
            book = Book(TABLE)
            for _ in range(15):
                whole, sure, stood = book.whole_now(), book.sure_now(), has_stone(book.case)
                deed = len(book) and picks.randint(0, 2) == 0 or len(book) == 12
                if deed:
                    book.take_back(picks.choice([number for number, _ in book]))
                else:
                    book.put(some_fact(picks))
                self.check(book)
                if stood and has_stone(book.case):
                    later = (book.whole_now(), book.sure_now())
                    fewer, more = (later, (whole, sure)) if deed else ((whole, sure), later)
                    self.assertTrue(lies_in(more[0], fewer[0]))
                    self.assertTrue(fewer[1] is None or lies_in(fewer[1], more[1]))

    def test_some(self):
        book = filled(*FOUR)
        self.assertEqual(book.whole_now(), patch((0, 0), (4, 0), (4, 2), (0, 2)))
        self.assertEqual(book.sure_now(), patch((2, 1)))
        self.assertIsNone(book.broken_now([("sure", p(2, 1)), ["stone"]]))
        self.assertEqual(book.broken_now([("stone",), ("possible", p(5, 5))]), Broken(1, None))
        book.put(ruler(1, 1, 7))
        # There is a whole, but no stone.
        self.assertIsNotNone(book.case.whole)
        self.assertIsNone(book.whole_now())
        self.assertIsNone(book.sure_now())
        self.assertEqual(book.broken_now([("stone",)]).index, 0)
        book.take_back(5)
        book.put(meets((20, 0)))
        self.check(book)


class Trials(unittest.TestCase):
    def test_one_that_ends_well(self):
        book = filled(*FOUR)
        book.take_back(2)
        before = state(book)
        with book.trial() as held:
            self.assertIs(held, book)
            self.assertEqual(state(book), before)
            self.assertEqual(book.put(FOUR[1]), 5)
            book.take_back(1)
            self.assertEqual([number for number, _ in book], [3, 4, 5])
        self.assertEqual(state(book), before)
        self.assertEqual(book.put(FOUR[1]), 5)

    def test_one_that_ends_by_an_error(self):
        for error in (BadFact("fact"), KeyError(1), ZeroDivisionError(), NoNumber(3)):
            book = filled(*FOUR)
            before = state(book)
            with self.assertRaises(type(error)) as caught:
                with book.trial():
                    book.take_back(3)
                    book.put(FOUR[0])
                    raise error
            self.assertIs(caught.exception, error)
            self.assertEqual(state(book), before)
            self.assertEqual(book.put(FOUR[1]), 5)

    def test_an_error_of_the_book_itself(self):
        book = filled(*FOUR * 3)
        before = state(book)
        with self.assertRaises(BookFull):
            with book.trial():
                book.take_back(12)
                self.assertEqual(book.put(FOUR[0]), 13)
                book.put(FOUR[0])
        self.assertEqual(state(book), before)
        book.take_back(1)
        self.assertEqual(book.put(FOUR[0]), 13)

    def test_it_is_as_when_the_block_was_entered(self):
        book = Book(TABLE)
        trial = book.trial()
        book.put(FOUR[0])
        with trial:
            book.put(FOUR[1])
        self.assertEqual(book.standing, ((1, FOUR[0]),))
        # The same trial may be entered again, and within itself.
        book.put(FOUR[2])
        with trial:
            book.put(FOUR[3])
            with trial:
                book.take_back(1)
            self.assertEqual([number for number, _ in book], [1, 2, 3])
        self.assertEqual([number for number, _ in book], [1, 2])
        self.assertEqual(book.put(FOUR[3]), 3)

    def test_trials_within_trials(self):
        book = filled(*FOUR)
        first = state(book)
        with book.trial():
            self.assertEqual(book.put(FOUR[0]), 5)
            second = state(book)
            with book.trial():
                self.assertEqual(book.put(FOUR[1]), 6)
                book.take_back(5)
                with self.assertRaises(FeltError):
                    with book.trial():
                        book.take_back(1)
                        book.take_back(1)
                self.assertEqual([number for number, _ in book], [1, 2, 3, 4, 6])
            self.assertEqual(state(book), second)
            self.assertEqual(book.put(FOUR[2]), 6)
            with book.trial():
                self.assertEqual(book.put(FOUR[2]), 7)
        self.assertEqual(state(book), first)
        self.assertEqual(book.put(FOUR[0]), 5)

    def test_tried(self):
        book = filled(*FOUR)
        before = state(book)

        def call(held):
            self.assertIs(held, book)
            held.take_back(1)
            return (held.put(meets((1, 1))), held.whole_now(), len(held))

        number, whole, many = book.tried(call=call)
        self.assertEqual((number, many), (5, 4))
        self.assertEqual(whole, Case(TABLE, [*FOUR[1:], meets((1, 1))]).whole)
        self.assertEqual(state(book), before)
        self.assertIsNone(book.tried(lambda held: None))
        self.assertIs(book.tried(lambda held: held), book)
        self.assertEqual(next_number(book), 5)
        self.assertEqual(book.tried(lambda held: (held.put(FOUR[0]), held.tried(lambda again: again.put(FOUR[0])), held.put(FOUR[1]))), (5, 6, 6))
        self.assertEqual(state(book), before)

    def test_tried_with_an_error(self):
        book = filled(*FOUR)
        before = state(book)

        def call(held):
            held.put(FOUR[0])
            held.take_back(9)

        check_errors(self, [(lambda: book.tried(call), NoNumber, 9)])
        with self.assertRaises(ZeroDivisionError):
            book.tried(lambda held: held.put(within(1, 0, 3)) // 0)
        self.assertEqual(state(book), before)
        self.assertEqual(book.put(FOUR[0]), 5)

    def test_full_book(self):
        book = filled(*FOUR * 3)
        check_errors(self, [(lambda: book.tried(lambda held: held.put(FOUR[0])), BookFull)])
        self.assertEqual(book.tried(lambda held: (held.take_back(5), held.put(FOUR[0]))), (None, 13))


class ManyFigures(unittest.TestCase):
    def test_twelve_facts(self):
        for figures, every in ((60, 1), (300, 3)):
            case = twelve_facts(figures, every)
            book = filled(*case.facts)
            self.assertEqual(book.case, case)
            self.assertEqual(book.sure_now(), sure_places(case))
            book.tried(lambda held: [held.take_back(number) for number, _ in held])
            self.assertEqual(book.case, case)


if __name__ == "__main__":
    unittest.main()
