"""Promise 30: pages of leaves, and leaves read back; and of promise 2 what stays."""

import copy
import random
import unittest

from helper import COLUMNS, MAKES, ORDERS, SIEVES, begin_leaf, deeds_by_chance, next_leaf
from turnleaf.book import Book
from turnleaf.errors import NoPage
from turnleaf.pages import page_of, read_page
from turnleaf.places import leaf_by_place

MOST = 9999999999
PAGES = [
    (([], None, None, 0, 0, 0), ["0+0 of 0 at 0"]),
    (([], "b", None, 3, 3, 12), ["3+0 of 3 at 12", "back b"]),
    (([], None, "f", 3, 0, 12), ["0+0 of 3 at 12", "forth f"]),
    (([], "b", "f", MOST, MOST, MOST), ["9999999999+0 of 9999999999 at 9999999999", "back b", "forth f"]),
    (([(7, [30, "ada"], True)], None, None, 1, 0, 5), ["0+1 of 1 at 5", "7 30 'ada"]),
    (([(7, [30, "ada"], False)], None, None, 1, 0, 5), ["0+1 of 1 at 5", "7 30 'ada *"]),
    (([(0, [None, None], False), (10 ** 9, [-10 ** 18, ""], True), (12, [0, "a-9"], False)],
      "l/5/+age/all/<0 ?.1234", "l/5/+age/all/>12 0.0007", 40, 17, 5000),
     ["17+3 of 40 at 5000", "0 ? ? *", "1000000000 -1000000000000000000 '", "12 0 'a-9 *",
      "back l/5/+age/all/<0 ?.1234", "forth l/5/+age/all/>12 0.0007"]),
    (([(3, [1, None], True)], "back forth", "back x", 0, 9, 1),
     ["9+1 of 0 at 1", "3 1 ?", "back back forth", "forth back x"]),
    (([(3, [1, None], True), (3, [1, None], True)], " ", " y ", 0, 9, 1),
     ["9+2 of 0 at 1", "3 1 ?", "3 1 ?", "back  ", "forth  y "]),
]


def hundred():
    rows = [(row, [row - 50, "a" * (row % 21)], row % 3 > 0) for row in range(100)]
    texts = [f"{row} {row - 50} '{'a' * (row % 21)}{'' if row % 3 else ' *'}" for row in range(100)]
    return (rows, "b", "f", 300, 100, 4000), ["100+100 of 300 at 4000"] + texts + ["back b", "forth f"]


class WrittenAndRead(unittest.TestCase):
    def test_pages(self):
        for leaf, page in PAGES + [hundred()]:
            with self.subTest(page=page[0]):
                self.assertEqual(page, page_of(leaf))
                self.assertEqual(leaf, read_page(COLUMNS, page))

    def test_the_kinds(self):
        leaf = read_page(COLUMNS, PAGES[6][1])
        self.assertEqual((tuple, list, tuple, list), (leaf.__class__, leaf[0].__class__, leaf[0][0].__class__,
                                                      leaf[0][0][1].__class__))
        self.assertEqual([False, True, False], [told[2] for told in leaf[0]])
        self.assertIs(True, leaf[0][1][2])
        self.assertEqual((list, {str}), (page_of(leaf).__class__, {text.__class__ for text in page_of(leaf)}))

    def test_by_other_columns(self):
        for columns, rows, texts in (
            ([("a", "text")], [(1, ["5"], True), (2, [None], False)], ["1 '5", "2 ? *"]),
            ([(name, "number") for name in "abcdef"], [(1, [1, 2, 3, 4, 5, None], False)], ["1 1 2 3 4 5 ? *"]),
        ):
            page = [f"0+{len(rows)} of 2 at 9"] + texts
            self.assertEqual(page, page_of((rows, None, None, 2, 0, 9)))
            self.assertEqual((rows, None, None, 2, 0, 9), read_page(columns, page))

    def test_leaves_by_chance(self):
        chance = random.Random(51)
        for turn in range(40):
            book, order, sieve = Book(COLUMNS), chance.choice(ORDERS), chance.choice(SIEVES)
            for deed in range(25):
                deeds_by_chance(chance, book)
            size, onward = chance.choice([1, 2, 3, 100]), chance.choice([True, False])
            leaf = begin_leaf(book, chance.choice(MAKES), order, sieve, size, onward)
            while leaf is not None:
                self.assertEqual(leaf, read_page(COLUMNS, page_of(leaf)))
                if book.moment() < 80:
                    deeds_by_chance(chance, book)
                leaf = next_leaf(book, leaf, size, onward)
            leaf = leaf_by_place(book, order, sieve, 3, 1)
            self.assertEqual(leaf, read_page(COLUMNS, page_of(leaf)))


class NoPages(unittest.TestCase):
    PAGE = ["17+2 of 40 at 5", "7 30 'ada *", "12 ? '", "back b", "forth f"]

    def refused(self, at, texts):
        with self.subTest(texts=texts):
            with self.assertRaises(NoPage) as caught:
                read_page(COLUMNS, texts)
            self.assertEqual(at, caught.exception.at)

    def spoiled(self, at, *texts):
        """The page with another text in the place of one."""
        for text in texts:
            self.refused(at, self.PAGE[:at] + [text] + self.PAGE[at + 1:])

    def test_the_page_itself_is_one(self):
        self.assertEqual(self.PAGE, page_of(read_page(COLUMNS, self.PAGE)))

    def test_no_texts(self):
        self.refused(0, [])

    def test_the_first_text(self):
        self.spoiled(0, "", " ", "17", "17+2", "17+2 of", "17+2 of 40", "17+2 of 40 at", "17+2 of 40 at ",
                     "17+2 of 40 at 5 ", " 17+2 of 40 at 5", "17+2 of 40 at 5 6", "17+2  of 40 at 5",
                     "17+2 of  40 at 5", "17 +2 of 40 at 5", "17+ 2 of 40 at 5", "17 2 of 40 at 5", "17-2 of 40 at 5",
                     "172 of 40 at 5", "17+2+0 of 40 at 5", "+2 of 40 at 5", "17+ of 40 at 5", "17+2 off 40 at 5",
                     "17+2 of 40 on 5", "17+2 at 40 of 5", "17+2 Of 40 at 5", "17+2 40 at 5", "17+2 of 40 5",
                     "7 30 'ada *", "back b", "17+2 of at 5")

    def test_the_numbers_of_the_first_text(self):
        for word in ("00", "01", "05", "10000000000", "12345678901", "00000000005", "-1", "+1", "?", "'1", "x",
                     "1x", "1.0", "1_0", "9" * 4000, "\u0663"):
            self.spoiled(0, f"{word}+2 of 40 at 5", f"17+2 of {word} at 5", f"17+2 of 40 at {word}")
            self.refused(0, [f"17+{word} of 40 at 5"] + self.PAGE[1:])
        self.refused(0, ["17+02 of 40 at 5"] + self.PAGE[1:])
        for word in ("0", "1", "10", "1000000000", "9999999999"):
            for head in (f"{word}+2 of 40 at 5", f"17+2 of {word} at 5", f"17+2 of 40 at {word}"):
                self.assertEqual([head] + self.PAGE[1:], page_of(read_page(COLUMNS, [head] + self.PAGE[1:])))

    def test_the_text_of_a_row(self):
        for at in (1, 2):
            self.spoiled(at, "", " ", "7", "7 30", "7 30 *", "7 *", "*", "7 30 'ada 5", "7 30 'ada * *",
                         "7 30 'ada 5 *", "7 30 'ada **", "7 30 'ada  *", "7 30 'ada ", " 7 30 'ada", "7  30 'ada",
                         "7 30  'ada", "7 'ada 30", "7 'ada 'ada", "7 30 30", "7 030 'ada", "7 -0 'ada", "7 30 ada",
                         "7 30 'Ada", "7 30 'ada*", "7 * 'ada", "7 30 'ada ?", "7 30 '" + "a" * 21,
                         "7 1000000000000000001 'ada", "7 30 'ada\n", "back b", "forth f", "17+2 of 40 at 5")

    def test_the_number_of_a_row(self):
        for word in ("", "07", "00", "-7", "+7", "?", "'7", "x", "1000000001", "9999999999", "10000000000",
                     "12345678901", "9" * 4000, "\u0667"):
            self.spoiled(1, f"{word} 30 'ada", f"{word} 30 'ada *")
        for word in ("0", "1", "1000000000"):
            texts = self.PAGE[:1] + [f"{word} 30 'ada"] + self.PAGE[2:]
            self.assertEqual(int(word), read_page(COLUMNS, texts)[0][0][0])

    def test_rows_too_few_and_too_many(self):
        head, one, other, back, forth = self.PAGE
        for at, texts in (
            (1, [head]), (2, [head, one]), (1, [head, back, forth]), (2, [head, one, back, forth]),
            (2, [head, one, forth]), (3, [head, one, other, one]), (3, [head, one, other, one, back, forth]),
            (1, ["0+0 of 40 at 5", one]), (2, ["0+1 of 40 at 5", one, other, back]),
            (3, ["0+9999999999 of 40 at 5", one, other]), (1, ["0+9999999999 of 40 at 5"]),
            (3, ["0+3 of 40 at 5", one, other, back]),
        ):
            self.refused(at, texts)

    def test_marks(self):
        head, one, other, back, forth = self.PAGE
        rows = [head, one, other]
        for at, texts in (
            (3, rows + ["back "]), (3, rows + ["forth "]), (3, rows + ["back"]), (3, rows + ["forth"]),
            (3, rows + ["back ", forth]), (4, rows + [back, "forth "]), (4, rows + [back, "forth"]),
            (4, rows + [forth, back]), (4, rows + [back, back]), (4, rows + [forth, forth]), (3, rows + ["Back b"]),
            (3, rows + [" back b"]), (3, rows + ["backb"]), (3, rows + ["forthf"]), (3, rows + ["forth\tf"]),
            (3, rows + [""]), (4, rows + [back, ""]), (4, rows + [forth, ""]), (4, rows + [back, one]),
            (5, rows + [back, forth, ""]), (5, rows + [back, forth, forth]), (5, rows + [back, forth, back]),
            (5, rows + [back, forth, one]), (5, rows + [back, forth, "", ""]), (1, ["0+0 of 0 at 0", ""]),
        ):
            self.refused(at, texts)

    def test_the_first_of_several(self):
        self.refused(0, ["17+02 of 40 at 5", "7", "12", "back "])
        self.refused(1, [self.PAGE[0], "7", "12", "back "])
        self.refused(2, self.PAGE[:2] + ["12", "back ", ""])
        self.refused(3, self.PAGE[:3] + ["back ", "forth ", ""])

    def test_by_other_columns(self):
        page = ["0+1 of 1 at 1", "1 5 'a"]
        self.assertEqual([(1, [5, "a"], True)], read_page(COLUMNS, page)[0])
        for columns in (COLUMNS[:1], COLUMNS[::-1], COLUMNS + [("size", "number")]):
            with self.assertRaises(NoPage) as caught:
                read_page(columns, page)
            self.assertEqual(1, caught.exception.at)


class NothingHangsTogether(unittest.TestCase):
    def test_what_is_handed_in_stays(self):
        for leaf, page in PAGES:
            handed, columns, texts = copy.deepcopy(leaf), list(COLUMNS), list(page)
            self.assertEqual((page, leaf), (page_of(handed), read_page(columns, texts)))
            self.assertEqual((leaf, COLUMNS, page), (handed, columns, texts))

    def test_what_is_handed_in_is_changed_behind_the_call(self):
        for leaf, page in PAGES:
            handed, columns, texts = copy.deepcopy(leaf), list(COLUMNS), list(page)
            told, read = page_of(handed), read_page(columns, texts)
            for row, values, untouched in handed[0]:
                values.clear()
            for changed in (handed[0], columns, texts):
                changed.clear()
            self.assertEqual((page, leaf), (told, read))

    def test_what_is_told_is_the_askers_own(self):
        leaf, page = PAGES[6]
        page_of(leaf).clear()
        read = read_page(COLUMNS, page)
        read[0][0][1].clear()
        read[0].clear()
        self.assertEqual((page, leaf), (page_of(leaf), read_page(COLUMNS, page)))


if __name__ == "__main__":
    unittest.main()
