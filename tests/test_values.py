"""Promises 9, 10 and 11: values, which one is before, and their words."""

import itertools
import unittest

from turnleaf.errors import NoValue
from turnleaf.values import is_value, read_value, value_before, value_word

BOUND = 10 ** 18
LETTERS = "abcdefghijklmnopqrstuvwxyz"
FIGURES = "0123456789"
SIGNS = LETTERS + FIGURES + "-"
# All that may be handed in: from the blank to ~ but the sign with the number 37.
HANDED = [chr(code) for code in range(32, 127) if code != 37]
NUMBERS = [-BOUND, 1 - BOUND, -1234567890, -10, -9, -1, 0, 1, 9, 10, 100, 1234567890, BOUND - 1, BOUND]
TEXTS = ["", "-", "--", "-1", "0", "007", "12", "a", "abc", "z-9", "z" * 20, "9" * 20, "-" * 20, SIGNS[:20], SIGNS[17:]]


class IsValue(unittest.TestCase):
    def says(self, wanted, kind, value):
        with self.subTest(kind=kind, value=value):
            self.assertIs(wanted, is_value(kind, value))

    def test_numbers_within_the_bounds(self):
        for number in NUMBERS:
            self.says(True, "number", number)

    def test_numbers_beyond_the_bounds(self):
        for number in (-BOUND - 1, BOUND + 1, 10 ** 60 - 1, 1 - 10 ** 60):
            self.says(False, "number", number)

    def test_texts(self):
        for text in TEXTS:
            self.says(True, "text", text)

    def test_texts_too_long(self):
        for text in ("a" * 21, "-" * 21, "0" * 21, SIGNS, "a" * 4000):
            self.says(False, "text", text)

    def test_each_sign(self):
        for sign in HANDED:
            for text in (sign, sign + "a", "a" + sign, "a" + sign + "a", "a" * 19 + sign):
                self.says(sign in SIGNS, "text", text)

    def test_signs_beyond_the_plain_ones(self):
        for text in ("\u00e4", "\u0661", "\u00b2", "\n", "a\n", "\t"):
            self.says(False, "text", text)

    def test_none_is_one(self):
        self.says(True, "number", None)
        self.says(True, "text", None)

    def test_the_other_kind(self):
        for text in TEXTS:
            self.says(False, "number", text)
        for number in NUMBERS:
            self.says(False, "text", number)

    def test_truths_are_no_numbers(self):
        for kind, truth in itertools.product(("number", "text"), (True, False)):
            self.says(False, kind, truth)


class ValueBefore(unittest.TestCase):
    def rises(self, rising):
        for (place, one), (other_place, other) in itertools.product(enumerate(rising), repeat=2):
            with self.subTest(one=one, other=other):
                self.assertIs(place < other_place, value_before(one, other))

    def test_numbers(self):
        self.rises([None] + NUMBERS)

    def test_texts(self):
        self.rises([None, "", "-", "--", "-1", "-a", "0", "00", "01", "1", "10", "2", "9", "9-", "a", "a-", "a0", "aa",
                    "ab", "b", "z", "z" * 19, "z" * 20])

    def test_a_beginning_is_before_what_goes_on(self):
        self.assertIs(True, value_before("leaf", "leafs"))
        self.assertIs(False, value_before("leafs", "leaf"))

    def test_figures_of_texts_are_signs(self):
        self.assertIs(True, value_before("10", "9"))
        self.assertIs(True, value_before(9, 10))

    def test_none(self):
        self.assertIs(False, value_before(None, None))
        for value in (0, -BOUND, BOUND, "", "-", "a"):
            with self.subTest(value=value):
                self.assertIs(True, value_before(None, value))
                self.assertIs(False, value_before(value, None))


class Words(unittest.TestCase):
    def test_the_word_of_each(self):
        for value, word in (
            (None, "?"), (0, "0"), (7, "7"), (-7, "-7"), (10, "10"), (-100, "-100"),
            (BOUND, "1000000000000000000"), (-BOUND, "-1000000000000000000"),
            ("", "'"), ("-", "'-"), ("0", "'0"), ("-7", "'-7"), ("007", "'007"), ("abc", "'abc"),
            ("a" * 20, "'" + "a" * 20),
        ):
            with self.subTest(value=value):
                self.assertEqual(word, value_word(value))

    def test_the_word_is_read_back(self):
        for kind, values in (("number", NUMBERS), ("text", TEXTS)):
            for value in values + [None]:
                with self.subTest(kind=kind, value=value):
                    back = read_value(kind, value_word(value))
                    self.assertEqual(value, back)
                    self.assertIs(value.__class__, back.__class__)

    def test_a_read_word_is_written_again(self):
        for kind, word in (("number", "-20"), ("number", "0"), ("text", "'"), ("text", "'0-a"), ("text", "?")):
            with self.subTest(kind=kind, word=word):
                self.assertEqual(word, value_word(read_value(kind, word)))

    def test_each_sign_of_a_text_word(self):
        for sign in HANDED:
            word = "'a" + sign
            with self.subTest(word=word):
                if sign in SIGNS:
                    self.assertEqual("a" + sign, read_value("text", word))
                else:
                    self.assertRaises(NoValue, read_value, "text", word)

    def test_each_sign_of_a_number_word(self):
        for sign in HANDED:
            with self.subTest(sign=sign):
                if sign in FIGURES:
                    self.assertEqual(int("1" + sign), read_value("number", "1" + sign))
                else:
                    self.assertRaises(NoValue, read_value, "number", "1" + sign)

    def test_the_bounds_are_read(self):
        self.assertEqual(BOUND, read_value("number", "1" + "0" * 18))
        self.assertEqual(-BOUND, read_value("number", "-1" + "0" * 18))
        self.assertEqual("a" * 20, read_value("text", "'" + "a" * 20))


class NoWords(unittest.TestCase):
    def refused(self, kind, words):
        for word in words:
            with self.subTest(kind=kind, word=word[:30]):
                self.assertRaises(NoValue, read_value, kind, word)

    def test_nothing(self):
        self.refused("number", ["", " "])
        self.refused("text", ["", " "])

    def test_noughts_ahead(self):
        self.refused("number", ["00", "01", "007", "-01", "-00", "0" * 19 + "1", "000000000000000000"])

    def test_signs_ahead(self):
        self.refused("number", ["+1", "+0", "+", "-+1", "+-1", "--1", "--", "---1", "-", "-0", "- 1", "--0"])

    def test_beyond_the_bounds(self):
        self.refused("number", [str(BOUND + 1), str(-BOUND - 1), "9" * 19, "-" + "9" * 19, "1" + "0" * 19,
                                "9" * 60, "-" + "9" * 4000, "9" * 5000])

    def test_what_python_reads_as_a_number(self):
        self.refused("number", ["1_0", " 1", "1 ", "1\n", "\u0661", "\u00b2", "1\u0661", "1.0", "1e3", "0x1", "1-", "1-1"])

    def test_text_words(self):
        self.refused("text", ["'" + "a" * 21, "'" + "a" * 4000, "'A", "'a b", "' ", "'a'", "''", "'?", "'*", "'a_",
                              "'\u00e4", "'a\n", "a", "abc", "-", "\"a", "a'", " 'a"])

    def test_the_other_kind(self):
        self.refused("text", ["0", "1", "-1", "12", str(BOUND)])
        self.refused("number", ["'", "'1", "'-1", "'a", "a", "-a"])

    def test_more_than_one_question(self):
        for kind in ("number", "text"):
            self.refused(kind, ["??", "? ", " ?", "-?", "'?", "?1", "?a"])


if __name__ == "__main__":
    unittest.main()
