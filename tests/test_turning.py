"""Promises 25 and 26: first and last leaves and turns of living and still lists, and what is refused; and promise 2."""

import copy
import unittest

from helper import COLUMNS, MAKES, NO_SIZES, all_told
from turnleaf.book import Book
from turnleaf.checks import check_word
from turnleaf.errors import Gone, Later, NoMark, NoOrder, NoSieve, NoSize
from turnleaf.marks import mark_text
from turnleaf.orders import read_order
from turnleaf.turning import first_leaf, last_leaf, turn_back, turn_forth

VALUES = {1: [10, "a"], 2: [20, "b"], 3: [30, "c"], 4: [None, "d"], 5: [20, "e"]}


def made():
    """Moments 1 to 5; by +age the line is 4, 1, 2, 5, 3."""
    book = Book(COLUMNS)
    for row in VALUES:
        book.put(row, VALUES[row])
    return book


def rows_of(*numbers):
    return [(row, VALUES[row], True) for row in numbers]


def mark_of(make, moment, side, age, row, order="+age", sieve="all"):
    return mark_text((make, moment, read_order(COLUMNS, order), sieve, (side, ([age], row))))


def checked(body):
    return body + "." + check_word(body)


class FirstAndLast(unittest.TestCase):
    def test_the_first_leaf(self):
        for make in MAKES:
            book = made()
            wanted = (rows_of(4, 1), None, mark_of(make, 5, "behind", 10, 1), 5, 0, 5)
            self.assertEqual(wanted, first_leaf(book, make, "+age", "all", 2))
            wanted = (rows_of(3, 2, 5, 1), None, mark_of(make, 5, "behind", 10, 1, "-age"), 5, 0, 5)
            self.assertEqual(wanted, first_leaf(book, make, "-age", "all", 4))
            self.assertEqual((rows_of(4, 1, 2, 5, 3), None, None, 5, 0, 5), first_leaf(book, make, "+age", "all", 5))

    def test_the_last_leaf(self):
        for make in MAKES:
            book = made()
            wanted = (rows_of(5, 3), mark_of(make, 5, "ahead", 20, 5), None, 5, 3, 5)
            self.assertEqual(wanted, last_leaf(book, make, "+age", "all", 2))
            self.assertEqual((rows_of(4, 1, 2, 5, 3), None, None, 5, 0, 5), last_leaf(book, make, "+age", "all", 100))

    def test_marks_written_out(self):
        for make in MAKES:
            leaf = first_leaf(made(), make, "-age +name", "over age 5", 1)
            self.assertEqual(checked(make[0] + "/5/-age +name/over age 5/>3 30 'c"), leaf[2])
            leaf = last_leaf(made(), make, "-age +name", "over age 5", 1)
            self.assertEqual(checked(make[0] + "/5/-age +name/over age 5/<1 10 'a"), leaf[1])
            leaf = first_leaf(made(), make, "", "all", 3)
            self.assertEqual(checked(make[0] + "/5//all/>3"), leaf[2])

    def test_through_a_sieve(self):
        for make in MAKES:
            book, sieve = made(), "either none age under age 25"
            wanted = (rows_of(4, 1), None, mark_of(make, 5, "behind", 10, 1, sieve=sieve), 4, 0, 5)
            self.assertEqual(wanted, first_leaf(book, make, "+age", sieve, 2))
            wanted = (rows_of(5), mark_of(make, 5, "ahead", 20, 5, sieve=sieve), None, 4, 3, 5)
            self.assertEqual(wanted, last_leaf(book, make, "+age", sieve, 1))

    def test_of_no_rows(self):
        for make in MAKES:
            for leaf in (first_leaf, last_leaf):
                self.assertEqual(([], None, None, 0, 0, 0), leaf(Book(COLUMNS), make, "+age", "all", 2))
                self.assertEqual(([], None, None, 0, 0, 5), leaf(made(), make, "", "over age 30", 2))

    def test_all_rows_are_untouched(self):
        for make in MAKES:
            book = made()
            book.change(2, [20, "b"])
            self.assertEqual([True] * 5, [told[2] for told in first_leaf(book, make, "", "all", 5)[0]])
            self.assertEqual([True] * 5, [told[2] for told in last_leaf(book, make, "", "all", 5)[0]])

    def test_the_kinds(self):
        for make in MAKES:
            leaf = first_leaf(made(), make, "+age", "all", 2)
            self.assertEqual((tuple, list, tuple, list, str), (
                leaf.__class__, leaf[0].__class__, leaf[0][0].__class__, leaf[0][0][1].__class__, leaf[2].__class__))
            self.assertIs(True, leaf[0][0][2])


def deeds_between(book):
    """Moments 6 to 10; the line by +age: 4, 6, 2 (22 now), 3 (same values), 5 (40 now); 1 was taken out."""
    book.change(2, [22, "b"])
    book.take(1)
    book.put(6, [15, "f"])
    book.change(3, [30, "c"])
    book.change(5, [40, "e"])


class TurningALivingList(unittest.TestCase):
    def setUp(self):
        self.book = made()
        self.first = first_leaf(self.book, "living", "+age", "all", 2)
        self.last = last_leaf(self.book, "living", "+age", "all", 2)
        deeds_between(self.book)

    def test_forth(self):
        wanted = ([(6, [15, "f"], False), (2, [22, "b"], False)], mark_of("living", 5, "ahead", 15, 6),
                  mark_of("living", 5, "behind", 22, 2), 5, 1, 10)
        leaf = turn_forth(self.book, self.first[2], 2)
        self.assertEqual(wanted, leaf)
        wanted = ([(3, [30, "c"], False), (5, [40, "e"], False)], mark_of("living", 5, "ahead", 30, 3), None, 5, 3, 10)
        self.assertEqual(wanted, turn_forth(self.book, leaf[2], 2))

    def test_back(self):
        rows = [(4, [None, "d"], True), (6, [15, "f"], False)]
        wanted = (rows, None, mark_of("living", 5, "behind", 15, 6), 5, 0, 10)
        self.assertEqual(wanted, turn_back(self.book, self.last[1], 2))

    def test_the_other_way_by_each_mark(self):
        wanted = ([(4, [None, "d"], True)], None, mark_of("living", 5, "behind", None, 4), 5, 0, 10)
        self.assertEqual(wanted, turn_back(self.book, self.first[2], 2))
        wanted = ([(2, [22, "b"], False), (3, [30, "c"], False), (5, [40, "e"], False)],
                  mark_of("living", 5, "ahead", 22, 2), None, 5, 2, 10)
        self.assertEqual(wanted, turn_forth(self.book, self.last[1], 3))

    def test_other_sizes(self):
        for size, numbers in ((1, [6]), (2, [6, 2]), (3, [6, 2, 3]), (4, [6, 2, 3, 5]), (100, [6, 2, 3, 5])):
            leaf = turn_forth(self.book, self.first[2], size)
            self.assertEqual(numbers, [told[0] for told in leaf[0]])
            self.assertEqual(size < 4, leaf[2] is not None)
        for size, numbers in ((1, [6]), (2, [4, 6]), (3, [4, 6]), (100, [4, 6])):
            leaf = turn_back(self.book, self.last[1], size)
            self.assertEqual(numbers, [told[0] for told in leaf[0]])
            self.assertEqual(size < 2, leaf[1] is not None)

    def test_touched_at_the_begin_and_behind_it(self):
        leaf = first_leaf(self.book, "living", "+age", "all", 1)
        self.book.change(3, [30, "c"])
        rows = turn_forth(self.book, leaf[2], 10)[0]
        self.assertEqual([(6, True), (2, True), (3, False), (5, True)], [(told[0], told[2]) for told in rows])

    def test_a_row_taken_out_and_put_in_again_is_touched(self):
        book = made()
        leaf = first_leaf(book, "living", "+age", "all", 1)
        book.take(2)
        book.put(2, [20, "b"])
        self.assertEqual([(1, [10, "a"], True), (2, [20, "b"], False)], turn_forth(book, leaf[2], 2)[0])

    def test_a_leaf_without_rows_keeps_its_cut(self):
        book = made()
        forth, back = (first_leaf(book, "living", "+age", "all", 3)[2], last_leaf(book, "living", "+age", "all", 3)[1])
        for row in (5, 3):
            book.take(row)
        self.assertEqual(([], forth, None, 3, 3, 7), turn_forth(book, forth, 2))
        wanted = (rows_of(1, 2), mark_of("living", 5, "ahead", 10, 1), None, 3, 1, 7)
        self.assertEqual(wanted, turn_back(book, forth, 2))
        for row in (4, 1):
            book.take(row)
        self.assertEqual(([], None, back, 1, 0, 9), turn_back(book, back, 2))
        book.take(2)
        self.assertEqual(([], None, None, 0, 0, 10), turn_forth(book, forth, 2))
        self.assertEqual(([], None, None, 0, 0, 10), turn_back(book, forth, 2))

    def test_a_mark_whose_row_has_another_key_now(self):
        book = made()
        forth = first_leaf(book, "living", "+age", "all", 3)[2]
        book.change(2, [25, "b"])
        self.assertEqual([(5, [20, "e"], True), (2, [25, "b"], False)], turn_forth(book, forth, 2)[0])
        book.change(2, [5, "b"])
        self.assertEqual(rows_of(5, 3), turn_forth(book, forth, 2)[0])
        self.assertEqual([(2, [5, "b"], False), (1, [10, "a"], True)], turn_back(book, forth, 2)[0])

    def test_moments_let_go_do_not_matter(self):
        ahead = [turn_forth(self.book, self.first[2], 2), turn_back(self.book, self.last[1], 2)]
        self.book.let_go(10)
        self.assertEqual(ahead, [turn_forth(self.book, self.first[2], 2), turn_back(self.book, self.last[1], 2)])

    def test_a_mark_whose_row_the_sieve_lets_through_no_more(self):
        book, sieve = made(), "under age 25"
        forth = first_leaf(book, "living", "+age", sieve, 2)[2]
        self.assertEqual(mark_of("living", 5, "behind", 20, 2, sieve=sieve), forth)
        book.change(2, [26, "b"])
        self.assertEqual((rows_of(5), mark_of("living", 5, "ahead", 20, 5, sieve=sieve), None, 2, 1, 6),
                         turn_forth(book, forth, 5))
        self.assertEqual((rows_of(1), None, mark_of("living", 5, "behind", 10, 1, sieve=sieve), 2, 0, 6),
                         turn_back(book, forth, 5))


class TurningAStillList(unittest.TestCase):
    def test_forth_and_back_whatever_is_done(self):
        book = made()
        first = first_leaf(book, "still", "+age", "all", 2)
        last = last_leaf(book, "still", "+age", "all", 2)
        middle = (rows_of(2, 5), mark_of("still", 5, "ahead", 20, 2), mark_of("still", 5, "behind", 20, 5), 5, 2, 5)
        final = (rows_of(3), mark_of("still", 5, "ahead", 30, 3), None, 5, 4, 5)
        for turn in range(3):
            self.assertEqual(middle, turn_forth(book, first[2], 2))
            self.assertEqual(final, turn_forth(book, middle[2], 2))
            self.assertEqual(first, turn_back(book, middle[1], 2))
            self.assertEqual((rows_of(1, 2), mark_of("still", 5, "ahead", 10, 1), mark_of("still", 5, "behind", 20, 2),
                              5, 1, 5), turn_back(book, last[1], 2))
            if turn == 0:
                deeds_between(book)
            else:
                for row in (2, 3, 4):
                    if book.has(row):
                        book.take(row)

    def test_the_other_way_by_each_mark_with_other_sizes(self):
        book = made()
        first = first_leaf(book, "still", "+age", "all", 2)
        deeds_between(book)
        wanted = (rows_of(1), mark_of("still", 5, "ahead", 10, 1), mark_of("still", 5, "behind", 10, 1), 5, 1, 5)
        self.assertEqual(wanted, turn_back(book, first[2], 1))
        self.assertEqual(first, turn_back(book, first[2], 100))
        self.assertEqual((rows_of(2, 5, 3), mark_of("still", 5, "ahead", 20, 2), None, 5, 2, 5),
                         turn_forth(book, first[2], 3))

    def test_the_list_of_another_begin(self):
        book = made()
        old = mark_of("still", 3, "behind", 10, 1)
        deeds_between(book)
        self.assertEqual((rows_of(2, 3), mark_of("still", 3, "ahead", 20, 2), None, 3, 1, 3), turn_forth(book, old, 4))
        self.assertEqual(([], None, None, 0, 0, 0), turn_forth(book, mark_of("still", 0, "behind", 10, 1), 4))

    def test_a_leaf_without_rows_keeps_its_cut(self):
        beyond, before = mark_of("still", 5, "behind", 99, 1), mark_of("still", 5, "ahead", None, 4)
        book = made()
        self.assertEqual(([], beyond, None, 5, 5, 5), turn_forth(book, beyond, 2))
        self.assertEqual(([], None, before, 5, 0, 5), turn_back(book, before, 2))


class Refusing(unittest.TestCase):
    def refused(self, book, wanted, asked, *handed):
        ahead = all_told(book)
        with self.subTest(asked=asked.__name__, handed=handed):
            with self.assertRaises(wanted[0]) as caught:
                asked(book, *handed)
            for field, value in wanted[1:]:
                self.assertEqual(value, getattr(caught.exception, field))
            self.assertEqual(ahead, all_told(book))


class TurningRefused(Refusing):
    NO_MARKS = ("", ".", ".0000", "l", "l/5/+age/all/>1 10", "l/5/+age/all/>1 10.0000", checked("x/5/+age/all/>1 10"),
                checked("l/5/+size/all/>1 10"), checked("l/5/+age/every/>1 10"), checked("l/5/+age/all/>1 'a"),
                checked("l/5/+age/all/1 10"), checked("l/05/+age/all/>1 10"), checked("l/5001/+age/all/>1 10"),
                checked("s/5/+name/is name b/>1 'a"), checked("l/5/+age/all/>1 10 5"))

    def both(self, book, wanted, mark, size):
        self.refused(book, wanted, turn_forth, mark, size)
        self.refused(book, wanted, turn_back, mark, size)

    def test_no_mark(self):
        book = made()
        for mark in self.NO_MARKS:
            for size in (2,) + NO_SIZES:
                self.both(book, (NoMark,), mark, size)

    def test_a_mark_of_other_columns(self):
        book = Book([("age", "text"), ("size", "number")])
        self.both(book, (NoMark,), mark_of("living", 0, "behind", 10, 1), 2)

    def test_later(self):
        for make in MAKES:
            for moment in (6, 7, 5000):
                for size in (2,) + NO_SIZES:
                    self.both(made(), (Later, ("now", 5)), mark_of(make, moment, "behind", 10, 1), size)
            self.assertEqual(rows_of(2), turn_forth(made(), mark_of(make, 5, "behind", 10, 1), 1)[0])
            self.both(Book(COLUMNS), (Later, ("now", 0)), mark_of(make, 1, "behind", 10, 1), 2)

    def test_later_with_moments_let_go(self):
        book = made()
        book.let_go(5)
        for make in MAKES:
            self.both(book, (Later, ("now", 5)), mark_of(make, 6, "behind", 10, 1), 0)

    def test_gone(self):
        for oldest in range(1, 6):
            book = made()
            book.let_go(oldest)
            for moment in range(6):
                for size in (2,) + NO_SIZES:
                    mark = mark_of("still", moment, "behind", 0, 1)
                    wanted = (Gone, ("known", oldest)) if moment < oldest else (NoSize,)
                    if moment < oldest or size != 2:
                        self.both(book, wanted, mark, size)
                    else:
                        self.assertEqual(moment, turn_forth(book, mark, 2)[5])

    def test_a_living_list_is_never_gone(self):
        book = made()
        book.let_go(5)
        for moment in range(6):
            mark = mark_of("living", moment, "behind", 15, 1)
            self.assertEqual([(2, [20, "b"], moment >= 2)], turn_forth(book, mark, 1)[0])
            self.both(book, (NoSize,), mark, 0)

    def test_no_size(self):
        book = made()
        for make in MAKES:
            for size in NO_SIZES:
                self.both(book, (NoSize,), mark_of(make, 5, "behind", 10, 1), size)
                self.both(book, (NoSize,), mark_of(make, 3, "ahead", None, 4), size)


class BeginningRefused(Refusing):
    NO_ORDERS = ("age", "+size", "+age +age", "+age  +name", " ", "+age -name +age", "+")
    NO_SIEVES = (("", 0), ("every", 0), ("both all", 2), ("is size 3", 1), ("over age 'a", 2), ("all all", 1))

    def both(self, book, wanted, make, order, sieve, size):
        self.refused(book, wanted, first_leaf, make, order, sieve, size)
        self.refused(book, wanted, last_leaf, make, order, sieve, size)

    def test_no_order(self):
        book = made()
        for make in MAKES:
            for order in self.NO_ORDERS:
                for sieve in ("all", "every"):
                    for size in (2, 0, 101):
                        self.both(book, (NoOrder,), make, order, sieve, size)

    def test_no_sieve(self):
        book = made()
        for make in MAKES:
            for sieve, at in self.NO_SIEVES:
                for size in (2, 0, 101):
                    self.both(book, (NoSieve, ("at", at)), make, "-age", sieve, size)

    def test_no_size(self):
        for make in MAKES:
            for size in NO_SIZES:
                self.both(made(), (NoSize,), make, "+name", "not all", size)
                self.both(Book(COLUMNS), (NoSize,), make, "", "all", size)


class NothingHangsTogether(unittest.TestCase):
    def each(self, book):
        for make in MAKES:
            mark = mark_of(make, 5, "behind", 10, 1)
            yield first_leaf(book, make, "+age", "all", 3)
            yield last_leaf(book, make, "+age", "all", 3)
            yield turn_forth(book, mark, 3)
            yield turn_back(book, mark, 3)

    def test_asking_changes_nothing_in_the_book(self):
        book = made()
        ahead = all_told(book)
        list(self.each(book))
        self.assertEqual(ahead, all_told(book))

    def test_a_leaf_is_the_askers_own(self):
        book = made()
        ahead, wanted = all_told(book), copy.deepcopy(list(self.each(book)))
        for leaf in self.each(book):
            for row, values, untouched in leaf[0]:
                values.clear()
            leaf[0].clear()
        self.assertEqual(ahead, all_told(book))
        self.assertEqual(wanted, list(self.each(book)))

    def test_what_was_told_stays_as_deeds_go_on(self):
        book = made()
        leaves = list(self.each(book))
        wanted = copy.deepcopy(leaves)
        deeds_between(book)
        book.let_go(10)
        list(self.each(made()))
        self.assertEqual(wanted, leaves)


if __name__ == "__main__":
    unittest.main()
