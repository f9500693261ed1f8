"""Promise 29: rows that stood, and sights; and of promise 2 what stays, and what is refused."""

import random
import unittest

from helper import COLUMNS, ORDERS, SIEVES, all_told, deeds_by_chance, line_wanted, stood_in
from turnleaf.book import Book
from turnleaf.errors import Gone, Later, NoOrder, NoSieve
from turnleaf.judges import sights, stood


def made():
    """Moments 1 to 12, of rows that each have their own fate."""
    book = Book(COLUMNS)
    for row in (9, 1, 2, 3, 4):
        book.put(row, [10, "a"])
    book.change(1, [10, "b"])
    book.change(2, [11, "a"])
    book.change(2, [10, "a"])
    book.take(3)
    book.put(3, [10, "a"])
    book.change(4, [10, "a"])
    book.put(5, [10, "a"])
    return book


class RowsThatStood(unittest.TestCase):
    def stood_from(self, book, order, sieve, wanted):
        for moment, rows in wanted:
            with self.subTest(order=order, sieve=sieve, moment=moment):
                self.assertEqual(rows, stood(book, order, sieve, moment))

    def test_in_an_order(self):
        self.stood_from(made(), "+age", "all", (
            (0, []), (1, [9]), (2, [1, 9]), (3, [1, 9]), (4, [1, 9]), (5, [1, 4, 9]), (6, [1, 4, 9]), (7, [1, 4, 9]),
            (8, [1, 2, 4, 9]), (9, [1, 2, 4, 9]), (10, [1, 2, 3, 4, 9]), (11, [1, 2, 3, 4, 9]),
            (12, [1, 2, 3, 4, 5, 9])))

    def test_in_an_order_by_another_column(self):
        self.stood_from(made(), "-name", "all", (
            (0, []), (1, [9]), (2, [9]), (3, [2, 9]), (5, [2, 4, 9]), (6, [1, 2, 4, 9]), (9, [1, 2, 4, 9]),
            (10, [1, 2, 3, 4, 9]), (12, [1, 2, 3, 4, 5, 9])))

    def test_without_columns_in_the_order(self):
        self.stood_from(made(), "", "all", ((2, [1, 9]), (3, [1, 2, 9]), (7, [1, 2, 4, 9]), (12, [1, 2, 3, 4, 5, 9])))

    def test_let_through_for_a_while_only(self):
        self.stood_from(made(), "", "is age 10", ((2, [1, 9]), (6, [1, 4, 9]), (7, [1, 4, 9]), (8, [1, 2, 4, 9])))
        self.stood_from(made(), "+age", "holds name 'b", ((0, []), (5, []), (6, [1]), (12, [1])))
        self.stood_from(made(), "+age", "is age 11", ((7, []), (8, []), (12, [])))

    def test_of_no_rows(self):
        self.assertEqual([], stood(Book(COLUMNS), "+age", "all", 0))

    def test_each_moment_by_the_rows_of_all_moments(self):
        chance = random.Random(41)
        seen = 0
        for turn in range(50):
            book, order, sieve = Book(COLUMNS), chance.choice(ORDERS), chance.choice(SIEVES)
            for deed in range(45):
                deeds_by_chance(chance, book, 25)
            book.let_go(chance.randrange(5))
            lines = [dict(line_wanted(book.rows_at(moment), order, sieve))
                     for moment in range(book.oldest(), book.moment() + 1)]
            for place, moment in enumerate(range(book.oldest(), book.moment() + 1)):
                wanted = stood_in(order, lines[place:])
                self.assertEqual(wanted, stood(book, order, sieve, moment))
                seen += len(wanted)
        self.assertGreater(seen, 2000)


class Refused(unittest.TestCase):
    def refused(self, book, refusal, field, wanted, *handed):
        ahead = all_told(book)
        with self.subTest(handed=handed):
            with self.assertRaises(refusal) as caught:
                stood(book, *handed)
            if field is not None:
                self.assertEqual(wanted, getattr(caught.exception, field))
            self.assertEqual(ahead, all_told(book))

    def test_gone_and_later(self):
        for oldest in (0, 1, 7, 12):
            book = made()
            book.let_go(oldest)
            for moment in (-1, oldest - 1, -10 ** 59):
                self.refused(book, Gone, "known", oldest, "+age", "all", moment)
            for moment in (13, 14, 10 ** 59):
                self.refused(book, Later, "now", 12, "+age", "all", moment)
            self.assertEqual(stood(made(), "+age", "all", oldest), stood(book, "+age", "all", oldest))

    def test_order_and_sieve_ahead_of_these(self):
        book = made()
        book.let_go(7)
        for moment in (6, 7, 13):
            self.refused(book, NoOrder, None, None, "age", "all", moment)
            self.refused(book, NoOrder, None, None, "+age +age", "every", moment)
            self.refused(book, NoSieve, "at", 0, "+age", "every", moment)
            self.refused(book, NoSieve, "at", 2, "+age", "both all", moment)

    def test_a_list_is_the_askers_own(self):
        book = made()
        ahead = all_told(book)
        told = stood(book, "+age", "all", 1)
        book.take(9)
        self.assertEqual([9], told)
        told = stood(book, "+age", "all", 12)
        told.clear()
        self.assertEqual([1, 2, 3, 4, 5], stood(book, "+age", "all", 12))
        self.assertEqual(ahead[6][12], [])


class Sights(unittest.TestCase):
    def test_none_one_and_many(self):
        for told, wanted in (
            ([], []), ([(7,)], [(7, 1)]), ([(7, [1, "a"], True)], [(7, 1)]), ([(7, 8), (7, 9), (7, 8)], [(7, 3)]),
            ([(5, 1), (3,), (5, [None], False), (10 ** 9, "a", 1, 2, 3), (0, None), (3,), (5, 5), (10, 10)],
             [(0, 1), (3, 2), (5, 3), (10, 1), (10 ** 9, 1)]),
        ):
            with self.subTest(told=told):
                self.assertEqual(wanted, sights(told))

    def test_what_is_handed_in_stays(self):
        told = [(2, [1], True), (1, [2], False), (2, [1], True)]
        first = sights(told)
        self.assertEqual([(2, [1], True), (1, [2], False), (2, [1], True)], told)
        told.clear()
        self.assertEqual([(1, 1), (2, 2)], first)

    def test_by_counting(self):
        chance = random.Random(43)
        for turn in range(30):
            told = [(chance.randrange(30),) * chance.randrange(1, 5) for sight in range(chance.randrange(80))]
            rows = [sight[0] for sight in told]
            self.assertEqual([(row, rows.count(row)) for row in sorted(set(rows))], sights(told))


if __name__ == "__main__":
    unittest.main()
