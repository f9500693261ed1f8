"""Promise 16: texts that are no sieves, and the number of the first word that is not as told."""

import unittest

from turnleaf.errors import NoSieve
from turnleaf.sifting import read_sieve

COLUMNS = [("age", "number"), ("name", "text"), ("size", "number")]
WORDS = [("all", "number"), ("none", "text"), ("is", "text"), ("not", "number"), ("both", "text"), ("over", "number")]
LONG = "a" * 21


class Refused(unittest.TestCase):
    def refused(self, at, text, columns=COLUMNS):
        ahead = list(columns)
        with self.subTest(text=text[:80], at=at):
            with self.assertRaises(NoSieve) as caught:
                read_sieve(columns, text)
            self.assertEqual(at, caught.exception.at)
            self.assertIs(int, caught.exception.at.__class__)
            self.assertEqual(ahead, columns)


class NoBeginning(Refused):
    def test_at_the_start(self):
        for text in ("x", "All", "ALL", "alle", "al", "age", "name 'a", "5", "'a", "?", "is_ age 5", "+age", "Not all",
                     "and all all", "or all all", "unde age 5", "hold name 'a", "isage 5", "all,", "*", "/"):
            self.refused(0, text)

    def test_within(self):
        self.refused(1, "not x")
        self.refused(1, "not age")
        self.refused(1, "both x all")
        self.refused(2, "both all x")
        self.refused(1, "either 5 all")
        self.refused(4, "either is age 5 x")
        self.refused(4, "either is age 5 'a")
        self.refused(3, "both not not x all")
        self.refused(4, "both not none age y")
        self.refused(3, "both none age age")

    def test_the_first_of_several(self):
        self.refused(0, "x y z")
        self.refused(1, "both x y")
        self.refused(1, "is q ? all all")
        self.refused(2, "is age ? all")


class NoName(Refused):
    def test_a_name_that_no_column_has(self):
        for word in ("none", "is", "under", "over", "holds"):
            for name in ("q", "Age", "ag", "ages", "5", "'a", "?", "all", "is"):
                self.refused(1, f"{word} {name}" if word == "none" else f"{word} {name} 5")
                self.refused(2, f"not {word} {name} 5")
        self.refused(5, "both is age 5 is q 5")
        self.refused(3, "both all none q")

    def test_a_column_of_others(self):
        self.refused(1, "is name 'a", COLUMNS[:1])
        self.refused(1, "none over", COLUMNS)

    def test_holds_of_a_number_column(self):
        self.refused(1, "holds age 'a")
        self.refused(1, "holds age 5")
        self.refused(1, "holds age ?")
        self.refused(1, "holds age")
        self.refused(1, "holds size '")
        self.refused(2, "not holds age 'a")
        self.refused(3, "either all holds size 'a")
        self.refused(1, "holds all 'a", WORDS)


class NoWord(Refused):
    def test_none_for_a_value(self):
        for word in ("is", "under", "over"):
            self.refused(2, word + " age ?")
            self.refused(2, word + " name ?")
            self.refused(3, "not " + word + " name ?")
        self.refused(2, "holds name ?")
        self.refused(5, "both none age is age ?")

    def test_a_value_of_the_other_kind(self):
        for word in ("is", "under", "over"):
            for value in ("'5", "'", "'a", "a"):
                self.refused(2, f"{word} age {value}")
            for value in ("5", "0", "-1"):
                self.refused(2, f"{word} name {value}")
        self.refused(2, "holds name 5")
        self.refused(2, "holds name a")

    def test_a_word_that_writes_no_value(self):
        for word in ("is", "under", "over"):
            for value in ("05", "-0", "+5", "1000000000000000001", "-1000000000000000001", "5.0", "--5", "-", "9" * 60):
                self.refused(2, f"{word} age {value}")
            for value in ("'A", "'a_", "''", "'" + LONG, "a", "\"a", "'?", "ada"):
                self.refused(2, f"{word} name {value}")
        self.refused(2, "holds name '" + LONG)
        self.refused(2, "holds name 'A")

    def test_in_a_second_part(self):
        self.refused(6, "both is age 5 is age '5")
        self.refused(6, "either holds name 'a holds name 5")


class TooMany(Refused):
    def test_a_word_too_many(self):
        for text, at in (("all all", 1), ("all x", 1), ("all all all", 1), ("none age age", 2), ("none age 5", 2),
                         ("is age 5 5", 3), ("is age 5 all", 3), ("not all all", 2), ("both all all all", 3),
                         ("either is age 5 all not", 5), ("holds name 'a 'b", 3), ("not not all not", 3)):
            self.refused(at, text)

    def test_the_sixty_first_word(self):
        whole = "both none age " * 19 + "is name 'a"
        self.assertEqual(60, len(whole.split(" ")))
        for more in (" all", " x", " 'a", " not", " ", " ?", " all all", " x" * 900):
            self.refused(60, whole + more)

    def test_the_sixty_first_word_of_one_that_is_not_at_its_end(self):
        # Sixty words, as told so far, and the sieve goes on.
        for ahead in ("both none age " * 20, "both none age " * 19 + "both is age ",
                      "both none age " * 19 + "both all is "):
            ahead = ahead.strip(" ")
            self.assertEqual(60, len(ahead.split(" ")))
            for more in ("all", "5", "age", "x", "?", "", "none age", "not all"):
                self.refused(60, ahead + " " + more)

    def test_an_earlier_word_is_told_where_it_is_not_as_told(self):
        many = " all" * 100
        self.refused(0, "x" + many)
        self.refused(1, "all" + many)
        self.refused(1, "is q 5" + many)
        self.refused(2, "is age ?" + many)
        self.refused(3, "both all all" + many)
        ahead = "both none age " * 19
        self.refused(57, ahead + "x" + many)
        self.refused(58, ahead + "is q" + many)
        self.refused(59, ahead + "is name 5" + many)
        self.refused(58, ahead + "all" + many)


class TooDeep(Refused):
    def test_a_twenty_first(self):
        for word in ("not", "both", "either"):
            self.refused(20, (word + " ") * 21 + "all" + " all" * 21)
            self.refused(20, (word + " ") * 21 + "x")
            self.refused(20, (word + " ") * 21 + "all")
            self.refused(20, (word + " ") * 60 + "all")
            self.refused(20, "not " * 20 + word)
        self.refused(20, "not both either not " * 5 + "not all")

    def test_in_second_parts(self):
        self.refused(40, "both all " * 20 + "not all")
        self.refused(40, "either all " * 21 + "all")
        # Twenty are as told: the fault lies behind them.
        self.refused(41, "both all " * 20 + "all x")

    def test_in_a_part_behind_another(self):
        self.refused(40, "both " + "not " * 19 + "all " + "not " * 20 + "all")
        self.refused(20, "both " + "not " * 20 + "all " + "not " * 20 + "all")


class TooFew(Refused):
    def test_how_many_there_are(self):
        for text in ("not", "both", "either", "none", "is", "under", "over", "holds", "is age", "under name",
                     "over size", "holds name", "both all", "either all", "both is age 5", "not not", "not is",
                     "not none", "both not all", "either both all all", "both all is age", "not both none age",
                     "both all not"):
            self.refused(len(text.split(" ")), text)

    def test_twenty_of_not_alone(self):
        self.refused(20, " ".join(["not"] * 20))

    def test_sixty_words_and_one_is_lacking(self):
        self.refused(60, ("both none age " * 20).strip(" "))


class Blanks(Refused):
    def test_the_text_without_signs_has_one_word(self):
        self.refused(0, "")

    def test_blanks_alone(self):
        self.refused(0, " ")
        self.refused(0, "  ")

    def test_ahead(self):
        self.refused(0, " all")
        self.refused(0, "  is age 5")

    def test_behind(self):
        self.refused(1, "all ")
        self.refused(1, "all  ")
        self.refused(2, "none age ")
        self.refused(3, "is age 5 ")
        self.refused(1, "not ")
        self.refused(2, "is age ")
        self.refused(1, "is ")
        self.refused(2, "both all ")
        self.refused(3, "both all all ")

    def test_between(self):
        self.refused(1, "not  all")
        self.refused(1, "is  age 5")
        self.refused(2, "is age  5")
        self.refused(2, "holds name  'a")
        self.refused(2, "both all  all")
        self.refused(1, "none  age")

    def test_other_white_signs(self):
        self.refused(0, "not\tall")
        self.refused(0, "all\n")
        self.refused(1, "none age\n")
        self.refused(2, "is age 5\n")


if __name__ == "__main__":
    unittest.main()
