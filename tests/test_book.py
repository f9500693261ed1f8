"""Promises 17 and 18: the book, its deeds and what was; of promise 2 what nothing hangs on, and what is refused."""

import random
import unittest

from helper import COLUMNS, all_told
from turnleaf.book import Book
from turnleaf.errors import Absent, Gone, Later, NoColumns, NoRow, Twice

MOST_ROW = 10 ** 9


def made():
    """Moments 1 to 6: 7 put, 3 put, 7 changed, 3 taken, 5 put, 3 put again."""
    book = Book(COLUMNS)
    book.put(7, [30, "ada"])
    book.put(3, [None, "bob"])
    book.change(7, [31, None])
    book.take(3)
    book.put(5, [0, ""])
    book.put(3, [1, "x"])
    return book


ROWS_AT = [
    [], [(7, [30, "ada"])], [(3, [None, "bob"]), (7, [30, "ada"])], [(3, [None, "bob"]), (7, [31, None])],
    [(7, [31, None])], [(5, [0, ""]), (7, [31, None])], [(3, [1, "x"]), (5, [0, ""]), (7, [31, None])],
]
DEEDS = [
    (1, 7, None, [30, "ada"]), (2, 3, None, [None, "bob"]), (3, 7, [30, "ada"], [31, None]),
    (4, 3, [None, "bob"], None), (5, 5, None, [0, ""]), (6, 3, None, [1, "x"]),
]


class Refusing(unittest.TestCase):
    def refused(self, book, refusal, field, wanted, asked, *handed):
        ahead = all_told(book)
        with self.subTest(asked=asked.__name__, handed=handed):
            with self.assertRaises(refusal) as caught:
                asked(*handed)
            if field is not None:
                self.assertEqual(wanted, getattr(caught.exception, field))
            self.assertEqual(ahead, all_told(book))


class NewBooks(unittest.TestCase):
    def test_what_it_tells(self):
        for columns in (COLUMNS, [("a", "text")], [(name, "number") for name in "abcdef"]):
            book = Book(columns)
            self.assertEqual((columns, 0, 0), (book.columns(), book.moment(), book.oldest()))
            self.assertEqual(([], [], []), (book.now_rows(), book.rows_at(0), book.deeds(0)))
            self.assertIs(False, book.has(0))

    def test_columns_that_are_none(self):
        for columns in ([], [("A", "text")], [("a", "texts")], [("a", "text"), ("a", "number")], [("", "text")],
                        [("abcdefghi", "text")], [(name, "number") for name in "abcdefg"]):
            with self.subTest(columns=columns):
                self.assertRaises(NoColumns, Book, columns)

    def test_books_of_their_own(self):
        one, other = Book(COLUMNS), Book(COLUMNS)
        one.put(1, [1, "a"])
        self.assertEqual(([], 0), (other.now_rows(), other.moment()))
        self.assertEqual([], other.deeds(0))


class Deeds(unittest.TestCase):
    def test_each_makes_the_next_moment(self):
        book = Book(COLUMNS)
        moments = [book.put(7, [30, "ada"]), book.put(3, [None, "bob"]), book.change(7, [31, None]), book.take(3),
                   book.put(5, [0, ""]), book.put(3, [1, "x"]), book.change(3, [1, "x"]), book.take(7)]
        self.assertEqual([1, 2, 3, 4, 5, 6, 7, 8], moments)
        self.assertEqual(8, book.moment())

    def test_the_moment_between(self):
        book = Book(COLUMNS)
        for wanted in range(1, 5):
            book.put(wanted, [None, None])
            self.assertEqual(wanted, book.moment())

    def test_rows_rising(self):
        book = Book(COLUMNS)
        for row in (9, 100, 0, MOST_ROW, 10, 2):
            book.put(row, [row, None])
        rows = book.now_rows()
        self.assertEqual([(row, [row, None]) for row in (0, 2, 9, 10, 100, MOST_ROW)], rows)
        self.assertEqual([(tuple, list)] * 6, [(told.__class__, told[1].__class__) for told in rows])

    def test_has_and_values(self):
        book = made()
        self.assertEqual([3, 5, 7], [row for row in range(-1, 12) if book.has(row)])
        self.assertIs(True, book.has(3))
        self.assertIs(False, book.has(4))
        self.assertEqual([[1, "x"], [0, ""], [31, None]], [book.values_of(row) for row in (3, 5, 7)])
        book.take(3)
        self.assertIs(False, book.has(3))

    def test_since(self):
        book = made()
        self.assertEqual([6, 5, 3], [book.since(row) for row in (3, 5, 7)])
        book.change(5, [0, ""])
        self.assertEqual([6, 7, 3], [book.since(row) for row in (3, 5, 7)])
        book.take(7)
        book.put(7, [31, None])
        self.assertEqual([6, 7, 9], [book.since(row) for row in (3, 5, 7)])

    def test_a_change_to_the_same_values_is_a_deed(self):
        book = made()
        self.assertEqual(7, book.change(5, [0, ""]))
        self.assertEqual([(7, 5, [0, ""], [0, ""])], book.deeds(6))
        self.assertEqual(ROWS_AT[6], book.now_rows())


class NoDeeds(Refusing):
    def test_what_is_no_row(self):
        for row, values in ((-1, [1, "a"]), (MOST_ROW + 1, [1, "a"]), (4, []), (4, [1]), (4, [1, "a", None]),
                            (4, ["1", "a"]), (4, [1, 1]), (4, [10 ** 18 + 1, "a"]), (4, [1, "A"]), (4, [1, "a" * 21])):
            book = made()
            self.refused(book, NoRow, None, None, book.put, row, values)
            self.refused(book, NoRow, None, None, book.change, row, values)

    def test_no_row_where_twice_or_absent_would_be_due(self):
        book = made()
        self.refused(book, NoRow, None, None, book.put, 7, [1, 1])
        self.refused(book, NoRow, None, None, book.put, 7, [])
        self.refused(book, NoRow, None, None, book.change, 8, [1, 1])
        self.refused(book, NoRow, None, None, book.change, -1, [1, "a"])
        self.refused(book, NoRow, None, None, book.change, MOST_ROW + 1, [1, "a"])

    def test_twice(self):
        book = made()
        for row in (3, 5, 7):
            self.refused(book, Twice, "row", row, book.put, row, [1, "a"])
            self.refused(book, Twice, "row", row, book.put, row, book.values_of(row))

    def test_absent(self):
        book = made()
        book.take(5)
        for row in (0, 4, 5, 8, MOST_ROW):
            self.refused(book, Absent, "row", row, book.change, row, [1, "a"])
        for row in (0, 4, 5, 8, MOST_ROW, -1, MOST_ROW + 1, -10 ** 59, 10 ** 59):
            for asked in (book.take, book.values_of, book.since):
                self.refused(book, Absent, "row", row, asked, row)
            self.assertIs(False, book.has(row))

    def test_a_new_book(self):
        book = Book(COLUMNS)
        for asked in (book.take, book.values_of, book.since):
            self.refused(book, Absent, "row", 0, asked, 0)
        self.refused(book, Absent, "row", 0, book.change, 0, [None, None])


class WhatWas(Refusing):
    def test_rows_at_each_moment(self):
        book = made()
        self.assertEqual(ROWS_AT, [book.rows_at(moment) for moment in range(7)])
        self.assertEqual(ROWS_AT[6], book.now_rows())

    def test_deeds_behind_each_moment(self):
        book = made()
        for moment in range(7):
            with self.subTest(moment=moment):
                self.assertEqual(DEEDS[moment:], book.deeds(moment))
        self.assertEqual([tuple] * 6, [deed.__class__ for deed in book.deeds(0)])

    def test_a_row_taken_out(self):
        book = made()
        book.take(7)
        self.assertEqual([(7, 7, [31, None], None)], book.deeds(6))
        self.assertEqual(ROWS_AT[6], book.rows_at(6))
        self.assertEqual(ROWS_AT[6][:2], book.rows_at(7))

    def test_moments_that_are_none(self):
        book = made()
        for moment in (7, 8, 5000, 10 ** 59):
            self.refused(book, Later, "now", 6, book.rows_at, moment)
            self.refused(book, Later, "now", 6, book.deeds, moment)
        for moment in (-1, -2, -10 ** 59):
            self.refused(book, Gone, "known", 0, book.rows_at, moment)
            self.refused(book, Gone, "known", 0, book.deeds, moment)


class LettingGo(Refusing):
    def stands(self, book, oldest):
        self.assertEqual((oldest, 6), (book.oldest(), book.moment()))
        for moment in range(oldest, 7):
            self.assertEqual(ROWS_AT[moment], book.rows_at(moment))
            self.assertEqual(DEEDS[moment:], book.deeds(moment))
        for moment in range(-1, oldest):
            self.refused(book, Gone, "known", oldest, book.rows_at, moment)
            self.refused(book, Gone, "known", oldest, book.deeds, moment)
        self.refused(book, Later, "now", 6, book.rows_at, 7)
        self.refused(book, Later, "now", 6, book.deeds, 7)
        self.assertEqual([6, 5, 3], [book.since(row) for row in (3, 5, 7)])
        self.assertEqual(ROWS_AT[6], book.now_rows())

    def test_each_moment(self):
        for moment in range(7):
            book = made()
            self.assertIsNone(book.let_go(moment))
            self.stands(book, moment)

    def test_the_oldest_and_older_ones(self):
        book = made()
        book.let_go(4)
        for moment in (4, 3, 1, 0, -1, -10 ** 59):
            self.assertIsNone(book.let_go(moment))
            self.stands(book, 4)

    def test_below_nought_of_a_new_book(self):
        book = Book(COLUMNS)
        book.let_go(-1)
        book.let_go(0)
        self.assertEqual(0, book.oldest())
        self.assertEqual([], book.rows_at(0))

    def test_one_behind_another(self):
        book = made()
        for moment in (2, 3, 5, 6):
            book.let_go(moment)
            self.stands(book, moment)

    def test_behind_now(self):
        book = made()
        for moment in (7, 8, 10 ** 59):
            self.refused(book, Later, "now", 6, book.let_go, moment)
        book.let_go(5)
        self.refused(book, Later, "now", 6, book.let_go, 7)
        self.stands(book, 5)
        empty = Book(COLUMNS)
        self.refused(empty, Later, "now", 0, empty.let_go, 1)

    def test_deeds_go_on(self):
        book = made()
        book.let_go(6)
        self.assertEqual(7, book.take(5))
        self.assertEqual(8, book.put(1, [2, "y"]))
        self.assertEqual([(7, 5, [0, ""], None), (8, 1, None, [2, "y"])], book.deeds(6))
        self.assertEqual(ROWS_AT[6], book.rows_at(6))
        self.assertEqual([(3, [1, "x"]), (7, [31, None])], book.rows_at(7))
        self.assertEqual(6, book.oldest())
        book.let_go(7)
        self.assertEqual([(8, 1, None, [2, "y"])], book.deeds(7))
        self.refused(book, Gone, "known", 7, book.rows_at, 6)


class NothingHangsTogether(unittest.TestCase):
    def test_columns_handed_in_and_told(self):
        columns = list(COLUMNS)
        book = Book(columns)
        self.assertEqual(COLUMNS, columns)
        columns.clear()
        book.columns().append(("size", "number"))
        self.assertEqual(COLUMNS, book.columns())
        self.assertEqual(1, book.put(1, [1, "a"]))

    def test_values_handed_in(self):
        book = Book(COLUMNS)
        one, other = [1, "a"], [2, "b"]
        book.put(1, one)
        book.put(2, other)
        book.change(1, other)
        self.assertEqual(([1, "a"], [2, "b"]), (one, other))
        ahead = all_told(book)
        one[0] = 50
        other.clear()
        self.assertEqual(ahead, all_told(book))
        self.assertEqual([2, "b"], book.values_of(1))

    def test_lists_told(self):
        book = made()
        ahead = all_told(book)
        for told in [book.now_rows()] + [book.rows_at(moment) for moment in range(7)]:
            for row, values in told:
                values[0] = 99
                values.append(99)
            told.clear()
        for row in (3, 5, 7):
            book.values_of(row).clear()
        for moment in range(7):
            for made_at, row, was, now in book.deeds(moment):
                for values in (was, now):
                    if values is not None:
                        values.clear()
            book.deeds(moment).clear()
        book.columns().clear()
        self.assertEqual(ahead, all_told(book))

    def test_deeds_told_have_lists_of_their_own(self):
        book = made()
        deeds = book.deeds(0)
        deeds[0][3].clear()
        self.assertEqual([30, "ada"], deeds[2][2])

    def test_what_was_told_stays_as_deeds_go_on(self):
        book = made()
        rows, at_four, deeds, values, columns = (
            book.now_rows(), book.rows_at(4), book.deeds(2), book.values_of(7), book.columns())
        book.change(7, [99, "z"])
        book.take(3)
        book.put(1, [None, None])
        book.let_go(8)
        self.assertEqual((ROWS_AT[6], ROWS_AT[4], DEEDS[2:], [31, None], COLUMNS),
                         (rows, at_four, deeds, values, columns))


class ByAModel(unittest.TestCase):
    """Deeds by chance of a set seed, beside all rows of each moment kept whole."""

    def one_deed(self, chance, book, rows, since):
        row = chance.randrange(12)
        values = [chance.choice([None, 1, 2]), chance.choice([None, "", "a"])]
        was = rows.get(row)
        if was is None:
            made_at, now = book.put(row, values), values
            rows[row] = values
        elif chance.randrange(2):
            made_at, now = book.change(row, values), values
            rows[row] = values
        else:
            made_at, now = book.take(row), None
            rows.pop(row)
        since[row] = made_at
        return (made_at, row, was, now)

    def test_many_deeds(self):
        chance = random.Random(11)
        book, rows, since, deeds, kept, oldest = Book(COLUMNS), {}, {}, [], [[]], 0
        for moment in range(1, 301):
            deeds.append(self.one_deed(chance, book, rows, since))
            kept.append(sorted(rows.items()))
            self.assertEqual((moment, moment), (deeds[-1][0], book.moment()))
            if moment % 40 == 0:
                oldest = moment - 25
                book.let_go(oldest)
            asked = chance.randrange(oldest, moment + 1)
            self.assertEqual(kept[asked], book.rows_at(asked))
            self.assertEqual(deeds[asked:], book.deeds(asked))
            self.assertEqual(kept[moment], book.now_rows())
            self.assertEqual([since[row] for row in sorted(rows)], [book.since(row) for row in sorted(rows)])

    def test_five_hundred_rows_and_five_thousand_deeds(self):
        book = Book(COLUMNS)
        for row in range(500):
            book.put(row, [row, None])
        for turn in range(4500):
            book.change(turn % 500, [turn, "a"])
        self.assertEqual((5000, 500), (book.moment(), len(book.now_rows())))
        self.assertEqual([(row, [row, None]) for row in range(500)], book.rows_at(500))
        self.assertEqual(5000, len(book.deeds(0)))
        self.assertEqual([(5000, 499, [3999, "a"], [4499, "a"])], book.deeds(4999))


if __name__ == "__main__":
    unittest.main()
