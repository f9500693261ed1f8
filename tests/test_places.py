"""Promise 27: leaves by places; and of promise 2 what stays."""

import copy
import random
import unittest

from helper import COLUMNS, NO_SIZES, ORDERS, SIEVES, all_told, deeds_by_chance, line_wanted
from turnleaf.book import Book
from turnleaf.errors import NoOrder, NoSieve, NoSize
from turnleaf.places import leaf_by_place


def made():
    book = Book(COLUMNS)
    for row, age in ((1, 10), (2, 20), (3, 30), (4, None), (5, 20)):
        book.put(row, [age, None])
    return book


def told(*rows):
    return [(row, [age, None], True) for row, age in rows]


class LeavesByPlaces(unittest.TestCase):
    def test_written_out(self):
        book = made()
        for size, number, wanted in (
            (2, 0, (told((4, None), (1, 10)), None, None, 5, 0, 5)),
            (2, 1, (told((2, 20), (5, 20)), None, None, 5, 2, 5)),
            (2, 2, (told((3, 30)), None, None, 5, 4, 5)),
            (2, 3, ([], None, None, 5, 5, 5)), (2, 4, ([], None, None, 5, 5, 5)),
            (2, 10 ** 59, ([], None, None, 5, 5, 5)), (100, 10 ** 59, ([], None, None, 5, 5, 5)),
            (1, 4, (told((3, 30)), None, None, 5, 4, 5)), (1, 5, ([], None, None, 5, 5, 5)),
            (5, 0, (told((4, None), (1, 10), (2, 20), (5, 20), (3, 30)), None, None, 5, 0, 5)),
            (5, 1, ([], None, None, 5, 5, 5)), (3, 1, (told((5, 20), (3, 30)), None, None, 5, 3, 5)),
        ):
            with self.subTest(size=size, number=number):
                self.assertEqual(wanted, leaf_by_place(book, "+age", "all", size, number))

    def test_of_no_rows(self):
        for number in (0, 1, 9999999999):
            self.assertEqual(([], None, None, 0, 0, 0), leaf_by_place(Book(COLUMNS), "", "all", 3, number))
            self.assertEqual(([], None, None, 0, 0, 5), leaf_by_place(made(), "", "over age 30", 3, number))

    def test_the_line_of_now_and_all_untouched(self):
        book = made()
        book.let_go(5)
        book.change(4, [25, None])
        book.take(1)
        self.assertEqual((told((2, 20), (5, 20)), None, None, 4, 0, 7), leaf_by_place(book, "+age", "all", 2, 0))
        self.assertEqual((told((4, 25), (3, 30)), None, None, 4, 2, 7), leaf_by_place(book, "+age", "all", 2, 1))

    def test_each_leaf_between_deeds(self):
        chance = random.Random(31)
        for turn in range(60):
            book, order, sieve = Book(COLUMNS), chance.choice(ORDERS), chance.choice(SIEVES)
            for deed in range(40):
                deeds_by_chance(chance, book)
            for number in range(8):
                size = chance.choice([1, 2, 3, 4, 100])
                line = line_wanted(book.now_rows(), order, sieve)
                rows = [(row, values, True) for row, values in line[number * size:][:size]]
                wanted = (rows, None, None, len(line), min(number * size, len(line)), book.moment())
                self.assertEqual(wanted, leaf_by_place(book, order, sieve, size, number))
                deeds_by_chance(chance, book)


class Refused(unittest.TestCase):
    def refused(self, refusal, *handed):
        book = made()
        ahead = all_told(book)
        with self.subTest(handed=handed):
            with self.assertRaises(refusal) as caught:
                leaf_by_place(book, *handed)
            self.assertEqual(ahead, all_told(book))
        return caught.exception

    def test_no_order(self):
        for order in ("age", "+size", "+age +age", " "):
            for sieve in ("all", "every"):
                for size in (2, 0, 101):
                    self.refused(NoOrder, order, sieve, size, 0)

    def test_no_sieve(self):
        for sieve, at in (("", 0), ("every", 0), ("both all", 2), ("is size 3", 1)):
            for size in (2, 0, 101):
                self.assertEqual(at, self.refused(NoSieve, "+age", sieve, size, 1).at)

    def test_no_size(self):
        for size in NO_SIZES:
            for number in (0, 1, 10 ** 59):
                self.refused(NoSize, "+age", "all", size, number)


class NothingHangsTogether(unittest.TestCase):
    def test_a_leaf_is_the_askers_own(self):
        book = made()
        ahead = all_told(book)
        leaf = leaf_by_place(book, "+age", "all", 2, 0)
        kept = copy.deepcopy(leaf)
        book.take(4)
        self.assertEqual(kept, leaf)
        book.put(4, [None, None])
        for row, values, untouched in leaf[0]:
            values.clear()
        leaf[0].clear()
        self.assertEqual(ahead[3], book.now_rows())
        self.assertEqual(kept[0], leaf_by_place(book, "+age", "all", 2, 0)[0])


if __name__ == "__main__":
    unittest.main()
