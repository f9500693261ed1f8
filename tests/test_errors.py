"""Promise 2: the refusals' classes, and what they are made of."""

import unittest

from turnleaf.errors import (
    Absent, Gone, Later, LeafError, NoBook, NoColumns, NoLine, NoMark, NoOrder, NoPage, NoRow, NoSieve, NoSize,
    NoValue, Twice,
)

OF_A_TEXT = [NoColumns, NoValue, NoOrder, NoRow, NoMark, NoSize, NoLine, NoBook]
OF_A_NUMBER = [(NoSieve, "at"), (NoPage, "at"), (Twice, "row"), (Absent, "row"), (Gone, "known"), (Later, "now")]


def one_of_each():
    return [made("a text") for made in OF_A_TEXT] + [made(3) for made, field in OF_A_NUMBER]


class TheClasses(unittest.TestCase):
    def test_there_are_fourteen(self):
        self.assertEqual(14, len({refusal.__class__ for refusal in one_of_each()}))

    def test_the_base_is_a_value_error(self):
        self.assertTrue(issubclass(LeafError, ValueError))

    def test_each_is_taken_by_the_base_and_by_value_error(self):
        for refusal in one_of_each():
            for base in (LeafError, ValueError):
                with self.subTest(refusal=repr(refusal), base=base), self.assertRaises(base):
                    raise refusal

    def test_none_is_taken_by_another(self):
        classes = OF_A_TEXT + [made for made, field in OF_A_NUMBER]
        for refusal in one_of_each():
            takers = [taker for taker in classes if isinstance(refusal, taker)]
            self.assertEqual([refusal.__class__], takers)


class WhatTheyAreMadeOf(unittest.TestCase):
    def test_a_text_whatever_one(self):
        for made in OF_A_TEXT:
            for text in ("", " ", "a text", "?", "'{x}\\", "a" * 4000):
                with self.subTest(made=made, text=text[:9]), self.assertRaises(made):
                    raise made(text)

    def test_the_number_is_the_field(self):
        for made, field in OF_A_NUMBER:
            for number in (0, 1, 60, 10 ** 9, -1, 10 ** 60 - 1):
                with self.subTest(made=made, number=number):
                    with self.assertRaises(made) as caught:
                        raise made(number)
                    self.assertEqual(number, getattr(caught.exception, field))
                    self.assertIs(int, getattr(caught.exception, field).__class__)

    def test_each_object_has_its_own_field(self):
        for made, field in OF_A_NUMBER:
            one, other = made(0), made(5)
            self.assertEqual((0, 5), (getattr(one, field), getattr(other, field)))


if __name__ == "__main__":
    unittest.main()
