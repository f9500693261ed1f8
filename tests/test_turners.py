"""Promise 28: turners; and of promise 2 what stays, and what is refused."""

import copy
import random
import unittest

from helper import (
    COLUMNS, MAKES, NO_SIZES, ORDERS, SIEVES, all_told, begin_leaf, deeds_by_chance, in_direction, line_wanted,
    next_leaf, put_by_chance,
)
from turnleaf.book import Book
from turnleaf.errors import Gone, NoOrder, NoSieve, NoSize
from turnleaf.turners import Turner


def made():
    """Moments 1 to 5; by +age the line is 4, 1, 2, 5, 3."""
    book = Book(COLUMNS)
    for row, age in ((1, 10), (2, 20), (3, 30), (4, None), (5, 20)):
        book.put(row, [age, "a"])
    return book


def told_by(turner):
    return turner.told(), turner.left_out(), turner.leaves()


def to_the_end(turner):
    leaf = turner.turn()
    while leaf is not None:
        leaf = turner.turn()
    return turner


class WrittenOut(unittest.TestCase):
    def test_ahead_of_the_first_turn(self):
        for make in MAKES:
            for forth in (True, False):
                self.assertEqual(([], [], 0), told_by(Turner(made(), make, "+age", "all", 2, forth)))

    def test_forth(self):
        for make in MAKES:
            turner = Turner(made(), make, "+age", "all", 2, True)
            self.assertEqual([(4, [None, "a"], True), (1, [10, "a"], True)], turner.turn()[0])
            told = [(4, [None, "a"], True), (1, [10, "a"], True)]
            self.assertEqual((told, [(2, 2), (3, 3), (5, 5)], 1), told_by(turner))
            self.assertEqual([(2, [20, "a"], True), (5, [20, "a"], True)], turner.turn()[0])
            told += [(2, [20, "a"], True), (5, [20, "a"], True)]
            self.assertEqual((told, [(3, 3)], 2), told_by(turner))
            self.assertEqual([(3, [30, "a"], True)], turner.turn()[0])
            told += [(3, [30, "a"], True)]
            self.assertEqual((told, [], 3), told_by(turner))
            self.assertIsNone(turner.turn())
            self.assertEqual((told, [], 3), told_by(turner))

    def test_back_each_leaf_from_its_last_row(self):
        for make in MAKES:
            turner = Turner(made(), make, "+age", "all", 2, False)
            self.assertEqual([(5, [20, "a"], True), (3, [30, "a"], True)], turner.turn()[0])
            self.assertEqual([3, 5], [told[0] for told in turner.told()])
            self.assertEqual([(1, [10, "a"], True), (2, [20, "a"], True)], turner.turn()[0])
            self.assertEqual([3, 5, 2, 1], [told[0] for told in turner.told()])
            self.assertEqual(([(4, 4)], 2), (turner.left_out(), turner.leaves()))
            self.assertEqual([(4, [None, "a"], True)], turner.turn()[0])
            self.assertEqual([3, 5, 2, 1, 4], [told[0] for told in turner.told()])
            self.assertIsNone(turner.turn())

    def test_a_list_of_no_rows_has_one_leaf(self):
        for make in MAKES:
            for forth in (True, False):
                book = Book(COLUMNS)
                turner = Turner(book, make, "+age", "all", 2, forth)
                self.assertEqual(([], None, None, 0, 0, 0), turner.turn())
                self.assertEqual(([], [], 1), told_by(turner))
                book.put(1, [1, "a"])
                self.assertIsNone(turner.turn())
                self.assertEqual(([], [(1, 1)] if make == "living" else [], 1), told_by(turner))

    def test_none_for_ever(self):
        for make in MAKES:
            for forth, age in ((True, 99), (False, None)):
                book = made()
                turner = to_the_end(Turner(book, make, "+age", "all", 2, forth))
                for row in range(20, 24):
                    book.put(row, [age, "a"])
                    self.assertIsNone(turner.turn())
                    self.assertEqual((3, 5), (turner.leaves(), len(turner.told())))

    def test_the_list_begins_with_the_first_turn(self):
        for make in MAKES:
            book = made()
            turner = Turner(book, make, "+age", "all", 2, True)
            book.change(4, [5, "b"])
            book.put(6, [6, "b"])
            book.let_go(6)
            leaf = turner.turn()
            self.assertEqual(([(4, [5, "b"], True), (6, [6, "b"], True)], 7), (leaf[0], leaf[5]))
            book.change(1, [10, "b"])
            values = [10, "b"] if make == "living" else [10, "a"]
            self.assertEqual((1, values, make == "still"), turner.turn()[0][0])

    def test_a_living_list_is_touched(self):
        book = made()
        turner = Turner(book, "living", "+age", "all", 2, True)
        turner.turn()
        book.change(4, [40, "a"])
        book.change(2, [20, "a"])
        book.take(5)
        book.change(1, [10, "a"])
        self.assertEqual([(2, 7), (3, 3), (4, 6)], turner.left_out())
        leaf = turner.turn()
        self.assertEqual(([(2, [20, "a"], False), (3, [30, "a"], True)], 9), (leaf[0], leaf[5]))
        self.assertEqual([(4, [40, "a"], False)], turner.turn()[0])
        told = [(4, [None, "a"], True), (1, [10, "a"], True), (2, [20, "a"], False), (3, [30, "a"], True),
                (4, [40, "a"], False)]
        self.assertEqual((told, [], 3), told_by(turner))
        book.change(3, [30, "b"])
        book.put(0, [None, None])
        self.assertEqual((told, [(0, 11), (3, 10)], 3), told_by(turner))
        book.change(3, [30, "a"])
        self.assertEqual((told, [(0, 11)], 3), told_by(turner))

    def test_what_a_still_list_leaves_out_and_is_no_more_in_the_book(self):
        book = made()
        turner = Turner(book, "still", "+age", "not is age 10", 1, False)
        turner.turn()
        book.take(5)
        book.change(2, [21, "a"])
        book.take(3)
        book.put(7, [50, "a"])
        self.assertEqual(([(3, [30, "a"], True)], [(2, 7), (4, 4), (5, None)], 1), told_by(turner))
        self.assertEqual([(5, [20, "a"], True)], turner.turn()[0])
        self.assertEqual([(2, 7), (4, 4)], turner.left_out())
        book.put(5, [60, "a"])
        self.assertEqual([(2, 7), (4, 4)], turner.left_out())


class ByTheLeaves(unittest.TestCase):
    """Turners among deeds by chance, beside the leaves told to one who keeps the marks himself."""

    def left_out(self, book, line, told):
        told = [(row, values) for row, values, untouched in told]
        since = {row: book.since(row) for row, values in book.now_rows()}
        return sorted((row, since.get(row)) for row, values in line if (row, values) not in told)

    def one(self, seed, make, onward, size):
        chance = random.Random(seed)
        book, order, sieve = Book(COLUMNS), chance.choice(ORDERS), chance.choice(SIEVES)
        turner = Turner(book, make, order, sieve, size, onward)
        put_by_chance(chance, book, chance.choice([0, 1, 6, 12, 18]))
        leaf, told, many, begin_line = None, [], 0, line_wanted(book.now_rows(), order, sieve)
        while many == 0 or leaf is not None:
            turns = begin_leaf(book, make, order, sieve, size, onward) if many == 0 else (
                next_leaf(book, leaf, size, onward))
            leaf = turner.turn()
            self.assertEqual(turns, leaf)
            many += leaf is not None
            told += in_direction(leaf[0], onward) if leaf is not None else []
            for turn in range(chance.choice([0, 1, 3]) if many < 40 else 0):
                deeds_by_chance(chance, book)
            line = begin_line if make == "still" else line_wanted(book.now_rows(), order, sieve)
            self.assertEqual((told, self.left_out(book, line, told), many), told_by(turner))
        self.assertIsNone(turner.turn())
        return many

    def test_turners(self):
        leaves = []
        for seed in range(30):
            for make in MAKES:
                for onward in (True, False):
                    for size in (1, 2, 3, 4, 100):
                        leaves.append(self.one(seed, make, onward, size))
        self.assertGreater(sum(leaves), 1500)

    def test_two_turners_of_one_book(self):
        book = made()
        one, other = Turner(book, "living", "+age", "all", 2, True), Turner(book, "still", "-age", "all", 3, False)
        one.turn()
        other.turn()
        one.turn()
        self.assertEqual(([4, 1, 2, 5], 2), ([told[0] for told in one.told()], one.leaves()))
        self.assertEqual(([4, 1, 5], 1), ([told[0] for told in other.told()], other.leaves()))


class Refused(unittest.TestCase):
    def test_making(self):
        book = made()
        ahead = all_told(book)
        for make in MAKES:
            for forth in (True, False):
                for order, sieve, size, refusal, at in (
                    ("age", "all", 2, NoOrder, None), ("+size", "every", 0, NoOrder, None),
                    ("+age +age", "all", 101, NoOrder, None), ("+age", "both all", 2, NoSieve, 2),
                    ("+age", "is size 3", 0, NoSieve, 1), ("", "", 101, NoSieve, 0),
                ) + tuple(("-age", "all", size, NoSize, None) for size in NO_SIZES):
                    with self.subTest(order=order, sieve=sieve, size=size):
                        with self.assertRaises(refusal) as caught:
                            Turner(book, make, order, sieve, size, forth)
                        if at is not None:
                            self.assertEqual(at, caught.exception.at)
        self.assertEqual(ahead, all_told(book))

    def gone(self, known, asked):
        with self.assertRaises(Gone) as caught:
            asked()
        self.assertEqual(known, caught.exception.known)

    def test_gone_of_a_still_list(self):
        for forth in (True, False):
            book = made()
            turner = Turner(book, "still", "+age", "all", 2, forth)
            turner.turn()
            told = turner.told()
            book.take(4)
            book.let_go(5)
            left = turner.left_out()
            self.assertEqual(3, len(left))
            book.let_go(6)
            for turn in range(3):
                self.gone(6, turner.turn)
                self.gone(6, turner.left_out)
                self.assertEqual((told, 1), (turner.told(), turner.leaves()))
            book.take(1)
            book.let_go(7)
            self.gone(7, turner.turn)

    def test_gone_behind_the_last_leaf(self):
        for forth in (True, False):
            book = made()
            turner = to_the_end(Turner(book, "still", "+age", "all", 2, forth))
            told = turner.told()
            book.take(3)
            self.assertEqual([], turner.left_out())
            book.let_go(6)
            for turn in range(2):
                self.gone(6, turner.left_out)
                self.assertIsNone(turner.turn())
                self.assertEqual((told, 3), (turner.told(), turner.leaves()))

    def test_a_still_list_that_has_not_begun_is_not_gone(self):
        book = made()
        turner = Turner(book, "still", "+age", "all", 2, True)
        book.take(4)
        book.let_go(6)
        self.assertEqual(([], [], 0), told_by(turner))
        self.assertEqual(6, turner.turn()[5])

    def test_a_living_list_is_never_gone(self):
        book = made()
        turner = Turner(book, "living", "+age", "all", 2, True)
        turner.turn()
        book.take(4)
        book.let_go(6)
        self.assertEqual([(2, 2), (3, 3), (5, 5)], turner.left_out())
        self.assertEqual([4, 1, 2, 5, 3], [told[0] for told in to_the_end(turner).told()])


class NothingHangsTogether(unittest.TestCase):
    def test_leaves_and_lists_told_are_the_askers_own(self):
        for make in MAKES:
            for forth in (True, False):
                book = made()
                turner = Turner(book, make, "+age", "all", 2, forth)
                leaf = turner.turn()
                ahead, kept = all_told(book), copy.deepcopy(told_by(turner))
                for rows in (leaf[0], turner.told()):
                    for row, values, untouched in rows:
                        values.clear()
                    rows.clear()
                turner.left_out().clear()
                self.assertEqual((ahead, kept), (all_told(book), told_by(turner)))

    def test_what_was_told_stays(self):
        book = made()
        turner = Turner(book, "living", "+age", "all", 2, True)
        leaf = turner.turn()
        told = leaf, turner.told(), turner.left_out()
        kept = copy.deepcopy(told)
        book.take(4)
        to_the_end(turner)
        self.assertEqual(kept, told)

    def test_asking_changes_nothing(self):
        for make in MAKES:
            book = made()
            turner = Turner(book, make, "+age", "all", 2, True)
            ahead = all_told(book)
            while turner.turn() is not None:
                self.assertEqual(told_by(turner), told_by(turner))
            self.assertEqual(ahead, all_told(book))


if __name__ == "__main__":
    unittest.main()
