"""Promises 3 to 7: what one may rely on in living lists, still lists and lists by places, while deeds go on."""

import collections
import random
import unittest

from helper import (
    COLUMNS, MAKES, ORDERS, SIEVES, begin_leaf, deeds_by_chance, in_direction, keys_by, line_wanted, next_leaf,
    put_by_chance, stood_in,
)
from turnleaf.book import Book
from turnleaf.errors import Gone, NoMark
from turnleaf.orders import key_ahead, read_order
from turnleaf.places import leaf_by_place
from turnleaf.turning import first_leaf, last_leaf, turn_back, turn_forth

SIGNS = [chr(code) for code in range(ord(" "), ord("~") + 1) if chr(code) != "%"]


def made(chance):
    """A book with deeds behind it, and rows with ties."""
    book = Book(COLUMNS)
    put_by_chance(chance, book, chance.choice([0, 1, 2, 8, 12, 16, 20]))
    for turn in range(chance.randrange(10)):
        deeds_by_chance(chance, book)
    return book


def touch(chance, book, told):
    """A deed to this row or number, told already, at the mark, or whichever."""
    row = told[0]
    if not book.has(row):
        book.put(row, told[1])
    elif chance.randrange(2):
        book.take(row)
    else:
        book.change(row, chance.choice([told[1], [chance.choice([None, 0, 1]), "a"]]))


def deeds_between(chance, book, leaf):
    for turn in range(chance.choice([0, 0, 1, 1, 2, 3, 6])):
        if leaf[0] and chance.randrange(3) == 0:
            touch(chance, book, chance.choice(leaf[0] + [leaf[0][0], leaf[0][-1]]))
        else:
            deeds_by_chance(chance, book)


class Reading:
    """A list taken leaf by leaf to its end, with the rows that were in the book at each leaf."""

    def __init__(self, seed, onward):
        chance = random.Random(seed)
        self.onward = onward
        self.book = made(chance)
        self.order, self.sieve = chance.choice(ORDERS), chance.choice(SIEVES)
        self.sizes = chance.choice([(1,), (2,), (3,), (4,), (1, 2, 5), (100,)])
        self.leaves, self.books = [], []
        self.take_leaves(chance)
        self.begin, self.end = self.leaves[0][5], self.leaves[-1][5]

    def take_leaves(self, chance):
        size = chance.choice(self.sizes)
        leaf = begin_leaf(self.book, "living", self.order, self.sieve, size, self.onward)
        while leaf is not None:
            self.leaves.append(leaf)
            self.books.append(dict(self.book.now_rows()))
            # Deeds end some time, so that a list to which rows are put in all the while ends too.
            if len(self.leaves) < 40:
                deeds_between(chance, self.book, leaf)
            leaf = next_leaf(self.book, leaf, chance.choice(self.sizes), self.onward)

    def told(self):
        return [told for leaf in self.leaves for told in in_direction(leaf[0], self.onward)]

    def times(self):
        return collections.Counter(told[0] for told in self.told())

    def deeds(self):
        """Those between the first leaf and the last one."""
        return [deed for deed in self.book.deeds(self.begin) if deed[0] <= self.end]

    def through(self, rows):
        return dict(line_wanted(sorted(rows.items()), self.order, self.sieve))

    def stood(self):
        return stood_in(self.order, [self.through(rows) for rows in self.books])


class LivingLists(unittest.TestCase):
    """Each sentence of promise 3 by itself."""

    @classmethod
    def setUpClass(cls):
        cls.readings = [Reading(seed, onward) for seed in range(250) for onward in (True, False)]

    def each(self):
        for place, reading in enumerate(self.readings):
            with self.subTest(reading=place, order=reading.order, sieve=reading.sieve):
                yield reading

    def test_rows_that_stood_are_told_just_once(self):
        seen = 0
        for reading in self.each():
            times = reading.times()
            for row in reading.stood():
                self.assertEqual(1, times[row])
                seen += len(reading.leaves) > 2
        self.assertGreater(seen, 500)

    def test_no_row_but_as_it_was_at_its_leaf(self):
        for reading in self.each():
            for leaf, rows in zip(reading.leaves, reading.books):
                through = reading.through(rows)
                self.assertEqual([], [told for told in leaf[0] if through.get(told[0]) != told[1]])

    def test_all_strictly_in_the_order(self):
        for reading in self.each():
            order = read_order(COLUMNS, reading.order)
            keys = in_direction(keys_by(reading.order, reading.told()), reading.onward)
            self.assertTrue(all(key_ahead(order, one, other) for one, other in zip(keys, keys[1:])))

    def test_no_row_more_often_than_by_its_deeds(self):
        again = 0
        for reading in self.each():
            deeds = collections.Counter(deed[1] for deed in reading.deeds())
            for row, times in reading.times().items():
                self.assertLessEqual(times, deeds[row] + 1)
                again += times > 1
        self.assertGreater(again, 50)

    def test_untouched_where_no_deed_was_done_behind_the_begin(self):
        touched = 0
        for reading in self.each():
            for leaf in reading.leaves:
                done = {deed[1] for deed in reading.book.deeds(reading.begin) if deed[0] <= leaf[5]}
                self.assertEqual([told[0] not in done for told in leaf[0]], [told[2] for told in leaf[0]])
                touched += len([told for told in leaf[0] if not told[2]])
        self.assertGreater(touched, 300)

    def test_a_row_is_told_untouched_once_at_most(self):
        for reading in self.each():
            times = collections.Counter(told[0] for told in reading.told() if told[2])
            self.assertLessEqual(set(times.values()), {1})
            done = {deed[1] for deed in reading.deeds()}
            for row in reading.through(reading.books[0]):
                if row not in done:
                    self.assertEqual((1, 1), (times[row], reading.times()[row]))

    def test_what_was_not_told_as_it_is_at_the_end_was_touched(self):
        missed = 0
        for reading in self.each():
            told = [(row, values) for row, values, untouched in reading.told()]
            done = {deed[1] for deed in reading.deeds()}
            for row, values in reading.through(reading.books[-1]).items():
                if (row, values) not in told:
                    self.assertIn(row, done)
                    missed += 1
        self.assertGreater(missed, 100)

    def test_the_end_has_no_mark_and_every_leaf_ahead_of_it_one(self):
        for reading in self.each():
            marks = [leaf[2] if reading.onward else leaf[1] for leaf in reading.leaves]
            self.assertEqual([True] * (len(marks) - 1) + [False], [mark is not None for mark in marks])

    def test_the_counts_of_each_leaf(self):
        """Promise 7, of living lists."""
        for reading in self.each():
            for leaf, rows in zip(reading.leaves, reading.books):
                line = line_wanted(sorted(rows.items()), reading.order, reading.sieve)
                self.assertEqual(len(line), leaf[3])
                if leaf[0]:
                    self.assertEqual([told[:2] for told in leaf[0]], line[leaf[4]:leaf[4] + len(leaf[0])])

    def test_moments_let_go_between_change_nothing(self):
        for seed in range(40):
            for onward in (True, False):
                told = []
                for letting_go in (False, True):
                    chance = random.Random(seed)
                    book = made(chance)
                    leaf = begin_leaf(book, "living", "-age", "all", 2, onward)
                    told.append([leaf])
                    while leaf is not None and len(told[-1]) < 40:
                        deeds_between(chance, book, leaf)
                        if letting_go:
                            book.let_go(book.moment())
                        leaf = next_leaf(book, leaf, 2, onward)
                        told[-1].append(leaf)
                self.assertEqual(told[0], told[1])


class StillLists(unittest.TestCase):
    def each(self, turns=80):
        for seed in range(turns):
            chance = random.Random(seed)
            book, order, sieve = made(chance), chance.choice(ORDERS), chance.choice(SIEVES)
            yield chance, book, order, sieve, line_wanted(book.now_rows(), order, sieve)

    def test_forth_and_back_to_the_end(self):
        for onward in (True, False):
            for chance, book, order, sieve, line in self.each():
                size, told, begin = chance.choice([1, 2, 3, 100]), [], book.moment()
                leaf = begin_leaf(book, "still", order, sieve, size, onward)
                while leaf is not None:
                    told += in_direction(leaf[0], onward)
                    self.assertEqual((len(line), begin), (leaf[3], leaf[5]))
                    deeds_between(chance, book, leaf)
                    book.let_go(begin)
                    leaf = next_leaf(book, leaf, size, onward)
                self.assertEqual([(row, values, True) for row, values in in_direction(line, onward)], told)

    def test_to_and_fro(self):
        for chance, book, order, sieve, line in self.each():
            begin, onward = book.moment(), chance.choice([True, False])
            leaf = begin_leaf(book, "still", order, sieve, 2, onward)
            start, stop = (0, min(2, len(line))) if onward else (max(len(line) - 2, 0), len(line))
            for turn in range(25):
                wanted = [(row, values, True) for row, values in line[start:stop]]
                self.assertEqual((wanted, len(line), start, begin), leaf[:1] + leaf[3:])
                self.assertEqual((start > 0, stop < len(line)), (leaf[1] is not None, leaf[2] is not None))
                deeds_between(chance, book, leaf)
                size, onward = chance.choice([1, 2, 3]), chance.choice([True, False])
                turned = next_leaf(book, leaf, size, onward)
                if turned is not None:
                    leaf = turned
                    start, stop = (stop, min(stop + size, len(line))) if onward else (max(start - size, 0), start)

    def test_gone_once_the_moment_was_let_go_and_not_ahead_of_that(self):
        for chance, book, order, sieve, line in self.each():
            first, last = (leaf(book, "still", order, sieve, 1) for leaf in (first_leaf, last_leaf))
            begin, marks = book.moment(), [mark for mark in (first[2], last[1]) if mark is not None]
            for turn in (turn_forth, turn_back):
                for mark in marks:
                    book.let_go(begin)
                    turn(book, mark, 1)
            deeds_by_chance(chance, book)
            ahead = [turn(book, mark, 2) for turn in (turn_forth, turn_back) for mark in marks]
            book.let_go(begin)
            self.assertEqual(ahead, [turn(book, mark, 2) for turn in (turn_forth, turn_back) for mark in marks])
            book.let_go(begin + 1)
            for turn in (turn_forth, turn_back):
                for mark in marks:
                    with self.assertRaises(Gone) as caught:
                        turn(book, mark, 2)
                    self.assertEqual(begin + 1, caught.exception.known)


class ByPlaces(unittest.TestCase):
    """Promise 5: the sum held against the deeds."""

    def take_leaves(self, chance):
        book, order, sieve = made(chance), chance.choice(ORDERS), chance.choice(SIEVES)
        size, leaves, lines = chance.choice([1, 2, 3, 5]), [], []
        while not leaves or leaves[-1][4] + len(leaves[-1][0]) < leaves[-1][3]:
            if leaves:
                deeds_between(chance, book, leaves[-1])
            leaves.append(leaf_by_place(book, order, sieve, size, len(leaves)))
            lines.append(dict(line_wanted(book.now_rows(), order, sieve)))
        return order, leaves, lines

    def test_never_and_more_than_once_come_to_no_more_than_the_deeds(self):
        seen = []
        for seed in range(400):
            order, leaves, lines = self.take_leaves(random.Random(seed))
            times = collections.Counter(told[0] for leaf in leaves for told in leaf[0])
            total = sum(abs(times[row] - 1) for row in stood_in(order, lines))
            self.assertLessEqual(total, leaves[-1][5] - leaves[0][5])
            seen.append(total)
        self.assertGreater(sum(seen), 50)

    def test_without_deeds_each_just_once(self):
        for seed in range(40):
            chance = random.Random(seed)
            book, order, sieve = made(chance), chance.choice(ORDERS), chance.choice(SIEVES)
            for size in (1, 2, 3, 100):
                told = [told[:2] for number in range(21) for told in leaf_by_place(book, order, sieve, size, number)[0]]
                self.assertEqual(line_wanted(book.now_rows(), order, sieve), told)

    def test_the_counts_of_each_leaf(self):
        """Promise 7, of lists by places."""
        for seed in range(60):
            order, leaves, lines = self.take_leaves(random.Random(seed))
            for leaf, line in zip(leaves, lines):
                self.assertEqual(len(line), leaf[3])
                self.assertEqual([told[:2] for told in leaf[0]], list(line.items())[leaf[4]:leaf[4] + len(leaf[0])])


class ToAndFro(unittest.TestCase):
    """Promise 6."""

    def begins(self):
        """First and last leaves, and those that marks of a living list lead to behind deeds."""
        for seed in range(60):
            for make in MAKES:
                chance = random.Random(seed)
                book, order, sieve, size = made(chance), chance.choice(ORDERS), chance.choice(SIEVES), 1 + seed % 4
                for onward in (True, False):
                    leaf = begin_leaf(book, make, order, sieve, size, onward)
                    yield book, leaf, size, onward
                    for turn in range(4):
                        deeds_between(chance, book, leaf)
                        leaf = next_leaf(book, leaf, size, onward) or leaf
                        fresh = turn_forth(book, leaf[2], size) if leaf[2] else None
                        if fresh:
                            yield book, fresh, size, True

    def test_forth_and_back_and_back_and_forth(self):
        seen = 0
        for book, leaf, size, onward in self.begins():
            turned = next_leaf(book, leaf, size, onward)
            while turned is not None:
                self.assertEqual(leaf, next_leaf(book, turned, size, not onward))
                seen += 1
                leaf = turned
                turned = next_leaf(book, leaf, size, onward)
        self.assertGreater(seen, 500)

    def test_forth_by_the_mark_back_tells_the_leaf_again(self):
        seen = 0
        for book, leaf, size, onward in self.begins():
            while leaf is not None:
                if leaf[1] is not None:
                    self.assertEqual(leaf, turn_forth(book, leaf[1], size))
                    seen += 1
                leaf = next_leaf(book, leaf, size, onward)
        self.assertGreater(seen, 500)

    def test_a_living_mark_is_good_for_ever(self):
        book = Book(COLUMNS)
        for row in range(10):
            book.put(row, [row, None])
        marks = first_leaf(book, "living", "+age", "all", 5)[2], last_leaf(book, "living", "+age", "all", 5)[1]
        for turn in range(700):
            book.change(turn % 10, [turn % 10, None])
            book.let_go(book.moment())
        for mark in marks:
            self.assertEqual([(row, [row, None], False) for row in range(5, 10)], turn_forth(book, mark, 5)[0])
            self.assertEqual([(row, [row, None], False) for row in range(5)], turn_back(book, mark, 5)[0])
        for row in range(10):
            book.take(row)
        for mark in marks:
            self.assertEqual(([], None, None, 0, 0, 720), turn_forth(book, mark, 5))

    def test_bent_marks(self):
        book = Book(COLUMNS)
        for row in range(6):
            book.put(row, [row, "ab"])
        for make in MAKES:
            leaf = first_leaf(book, make, "-age +name", "either holds name 'a over age 3", 2)
            leaf = turn_forth(book, leaf[2], 2)
            for mark in leaf[1:3]:
                bent = [mark[:at] + sign + mark[at + 1:] for at in range(len(mark)) for sign in SIGNS
                        if sign != mark[at]]
                bent += [mark[:at] + mark[at + 1] + mark[at] + mark[at + 2:] for at in range(len(mark) - 1)
                         if mark[at] != mark[at + 1]]
                self.assertGreater(len(bent), 3000)
                for text in bent:
                    self.assertRaises(NoMark, turn_forth, book, text, 2)
                    self.assertRaises(NoMark, turn_back, book, text, 2)


if __name__ == "__main__":
    unittest.main()
