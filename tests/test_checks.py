"""Promise 20: the check of a text, and the word that writes it."""

import unittest

from turnleaf.checks import check_of, check_word

WRITTEN = [
    ("", 0, "0000"), ("a", 97, "0097"), (" ", 32, "0032"), ("~", 126, "0126"), ("c", 99, "0099"), ("d", 100, "0100"),
    ("ab", 3550, "3550"), ("ba", 3414, "3414"), ("lez", 0, "0000"), ("mez", 1, "0001"), ("uez", 9, "0009"),
    ("vez", 10, "0010"), ("eys", 999, "0999"), ("fys", 1000, "1000"), ("kez", 9972, "9972"),
    ("l/0//all/<0", 4790, "4790"), ("~" * 100, 4899, "4899"), ("a" * 4000, 1203, "1203"),
]
SIGNS = [chr(code) for code in range(32, 127) if code != 37]


def by_the_words(text):
    return sum(ord(sign) * 137 ** place for place, sign in enumerate(text)) % 9973


class Checks(unittest.TestCase):
    def test_written_out(self):
        for text, check, word in WRITTEN:
            with self.subTest(text=text[:20]):
                self.assertEqual(check, check_of(text))
                self.assertEqual(word, check_word(text))
                self.assertEqual((int, str), (check_of(text).__class__, check_word(text).__class__))

    def test_each_sign(self):
        for sign in SIGNS:
            self.assertEqual(ord(sign), check_of(sign))
            self.assertEqual(by_the_words("ab" + sign), check_of("ab" + sign))

    def test_of_growing_texts(self):
        text = "".join(SIGNS) * 3
        for length in range(len(text)):
            self.assertEqual(by_the_words(text[:length]), check_of(text[:length]))

    def test_of_the_longest_text(self):
        text = ("".join(SIGNS) * 50)[:4000]
        self.assertEqual(by_the_words(text), check_of(text))

    def test_four_figures(self):
        for text, check, word in WRITTEN:
            self.assertEqual((4, check), (len(check_word(text)), int(check_word(text))))


if __name__ == "__main__":
    unittest.main()
