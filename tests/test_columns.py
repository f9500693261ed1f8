"""Promises 8 and 12: columns, the place of a name, and rows; and of promise 2 that what is handed in stays."""

import unittest

from turnleaf.columns import ask_columns, is_row, place_of
from turnleaf.errors import NoColumns

SIX = [("a", "number"), ("bb", "text"), ("ccc", "number"), ("dddddddd", "text"), ("z", "text"), ("az", "number")]
COLUMNS = [("age", "number"), ("name", "text"), ("size", "number")]
VALUES = [30, "ada", -1]
MOST_ROW = 10 ** 9
BOUND = 10 ** 18


class Taken(unittest.TestCase):
    def taken(self, columns):
        ahead = list(columns)
        with self.subTest(columns=columns):
            self.assertIsNone(ask_columns(columns))
            self.assertEqual(ahead, columns)

    def test_one_to_six(self):
        for count in range(1, 7):
            self.taken(SIX[:count])

    def test_either_kind(self):
        self.taken([("a", "number")])
        self.taken([("a", "text")])

    def test_names(self):
        for name in ("a", "z", "abcdefgh", "ijklmnop", "qrstuvwx", "yz", "zzzzzzzz", "number", "text", "all", "not"):
            self.taken([(name, "text")])

    def test_names_of_which_one_begins_another(self):
        self.taken([("a", "text"), ("aa", "text"), ("aaa", "number")])


class Refused(unittest.TestCase):
    def refused(self, columns):
        ahead = list(columns)
        with self.subTest(columns=columns):
            self.assertRaises(NoColumns, ask_columns, columns)
            self.assertEqual(ahead, columns)

    def anywhere(self, column):
        self.refused([column])
        self.refused([column] + SIX[:5])
        self.refused(SIX[:5] + [column])

    def test_none_and_too_many(self):
        self.refused([])
        self.refused(SIX + [("g", "text")])
        self.refused(SIX + [("g", "text"), ("h", "number")])

    def test_the_length_of_a_name(self):
        self.anywhere(("", "text"))
        self.anywhere(("abcdefghi", "number"))
        self.anywhere(("a" * 4000, "number"))

    def test_each_other_sign_in_a_name(self):
        for code in list(range(32, 127)) + [9, 10, 0xe4, 0x661]:
            sign = chr(code)
            if not "a" <= sign <= "z":
                for name in (sign, sign + "x", "x" + sign, "x" + sign + "x"):
                    self.refused([(name, "text")])
        self.anywhere(("A", "text"))

    def test_a_name_twice(self):
        self.refused([("a", "text"), ("a", "text")])
        self.refused([("a", "text"), ("a", "number")])
        self.refused(SIX[:5] + [SIX[0]])
        self.refused(SIX[:4] + [("z", "text"), ("z", "number")])

    def test_another_kind(self):
        for kind in ("", "numbers", "texts", "Number", "TEXT", "num", "int", " text", "text ", "number text", "tex"):
            self.anywhere(("q", kind))


class PlaceOf(unittest.TestCase):
    def test_of_each_name(self):
        for place, (name, kind) in enumerate(SIX):
            with self.subTest(name=name):
                self.assertEqual(place, place_of(SIX, name))
                self.assertIs(int, place_of(SIX, name).__class__)

    def test_of_no_name(self):
        for name in ("", "b", "q", "aa", "A", "a ", "dddddddddd", "number", "text"):
            with self.subTest(name=name):
                self.assertIsNone(place_of(SIX, name))

    def test_the_columns_stay(self):
        columns = list(SIX)
        place_of(columns, "z")
        place_of(columns, "q")
        self.assertEqual(SIX, columns)


class IsRow(unittest.TestCase):
    def says(self, wanted, columns, row, values):
        columns_ahead, values_ahead = list(columns), list(values)
        with self.subTest(columns=columns, row=row, values=values):
            self.assertIs(wanted, is_row(columns, row, values))
            self.assertEqual((columns_ahead, values_ahead), (columns, values))

    def test_row_numbers(self):
        for row in (0, 1, 500, MOST_ROW - 1, MOST_ROW):
            self.says(True, COLUMNS, row, VALUES)
        for row in (-1, -MOST_ROW, MOST_ROW + 1, 10 ** 60 - 1):
            self.says(False, COLUMNS, row, VALUES)

    def test_truths_are_no_row_numbers(self):
        self.says(False, COLUMNS, True, VALUES)
        self.says(False, COLUMNS, False, VALUES)

    def test_how_many_values(self):
        self.says(False, COLUMNS, 1, [])
        self.says(False, COLUMNS, 1, VALUES[:1])
        self.says(False, COLUMNS, 1, VALUES[:2])
        self.says(False, COLUMNS, 1, VALUES + [None])
        self.says(False, COLUMNS, 1, VALUES + [1])
        self.says(False, COLUMNS, 1, VALUES + VALUES)

    def test_a_value_of_the_other_kind(self):
        for place, value in ((0, "30"), (0, ""), (1, 3), (1, 0), (2, "a"), (2, "")):
            values = list(VALUES)
            values[place] = value
            self.says(False, COLUMNS, 1, values)

    def test_a_value_beyond_its_bounds(self):
        for place, value in ((0, BOUND + 1), (0, -BOUND - 1), (1, "a" * 21), (1, "A"), (2, BOUND + 1), (2, -BOUND - 1)):
            values = list(VALUES)
            values[place] = value
            self.says(False, COLUMNS, 1, values)

    def test_values_at_their_bounds(self):
        self.says(True, COLUMNS, 1, [BOUND, "a" * 20, -BOUND])
        self.says(True, COLUMNS, 1, [-BOUND, "", BOUND])

    def test_texts_at_the_first_and_the_last_place(self):
        columns = [("a", "text"), ("b", "number"), ("c", "text")]
        self.says(True, columns, 1, ["", 0, "z" * 20])
        for values in (["a" * 21, 0, ""], ["", 0, "a" * 21], [1, 0, ""], ["", 0, 1], ["%", 0, ""], ["", 0, " "]):
            self.says(False, columns, 1, values)

    def test_none_at_any_place(self):
        for place in range(3):
            values = list(VALUES)
            values[place] = None
            self.says(True, COLUMNS, 1, values)
        self.says(True, COLUMNS, 1, [None, None, None])
        self.says(False, COLUMNS, -1, [None, None, None])

    def test_one_and_six_columns(self):
        self.says(True, [("a", "number")], 0, [5])
        self.says(False, [("a", "number")], 0, ["5"])
        self.says(True, SIX, 0, [1, "x", 2, "y", "z", 3])
        self.says(False, SIX, 0, [1, "x", 2, "y", 3, "z"])


if __name__ == "__main__":
    unittest.main()
