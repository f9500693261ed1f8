"""Promise 15, and how 16 has a sieve shown: what each sieve lets through; of promise 2 what nothing hangs on."""

import itertools
import random
import unittest

from turnleaf.sieves import Sieve
from turnleaf.sifting import read_sieve

COLUMNS = [("age", "number"), ("name", "text"), ("size", "number")]
# Columns that are called like words of sieves.
WORDS = [("all", "number"), ("none", "text"), ("is", "text"), ("not", "number"), ("both", "text"), ("over", "number")]


def lets(text, values, columns=COLUMNS):
    return read_sieve(columns, text).lets(values)


class OneSieve(unittest.TestCase):
    def through(self, text, ages=(), names=(), no_ages=(), no_names=()):
        """Of rows that have these ages (or names) and None elsewhere: those let through, and those not."""
        rows = [(True, [age, None, None]) for age in ages] + [(False, [age, None, None]) for age in no_ages]
        rows += [(True, [None, name, None]) for name in names] + [(False, [None, name, None]) for name in no_names]
        for wanted, values in rows:
            with self.subTest(text=text, values=values):
                self.assertIs(wanted, lets(text, values))

    def test_all(self):
        self.through("all", ages=[None, -1, 0, 5, 10 ** 18], names=[None, "", "a", "all"])

    def test_none(self):
        self.through("none age", ages=[None], no_ages=[0, -1, 7, -10 ** 18])
        self.through("none name", names=[None], no_names=["", "a", "0", "-"])
        self.assertIs(True, lets("none size", [1, "a", None]))
        self.assertIs(False, lets("none size", [None, None, 0]))

    def test_is_of_numbers(self):
        self.through("is age 5", ages=[5], no_ages=[None, 4, 6, -5, 0, 50])
        self.through("is age 0", ages=[0], no_ages=[None, 1, -1])
        self.through("is age -12", ages=[-12], no_ages=[None, 12, -11, -13])
        self.through("is age 1000000000000000000", ages=[10 ** 18], no_ages=[None, 10 ** 18 - 1, -10 ** 18])

    def test_is_of_texts(self):
        self.through("is name 'ada", names=["ada"], no_names=[None, "", "ad", "adaa", "adb", "xada"])
        self.through("is name '", names=[""], no_names=[None, "a", "-", "0"])
        self.through("is name '-0", names=["-0"], no_names=[None, "0", "-", ""])

    def test_under_numbers(self):
        self.through("under age 5", ages=[4, 0, -10 ** 18], no_ages=[None, 5, 6, 50, 10 ** 18])
        self.through("under age 0", ages=[-1, -100], no_ages=[None, 0, 1])
        self.through("under age -1000000000000000000", no_ages=[None, -10 ** 18, 0])
        self.through("under age 10", ages=[9], no_ages=[None, 10, 100])

    def test_under_texts(self):
        self.through("under name 'b", names=["", "-", "0", "a", "azzz"], no_names=[None, "b", "ba", "c"])
        self.through("under name '", no_names=[None, "", "-", "a"])
        self.through("under name '9", names=["10", "8"], no_names=[None, "9", "90", "a"])

    def test_over_numbers(self):
        self.through("over age 5", ages=[6, 50, 10 ** 18], no_ages=[None, 5, 4, -6])
        self.through("over age -1", ages=[0, 1], no_ages=[None, -1, -2])
        self.through("over age 1000000000000000000", no_ages=[None, 10 ** 18, 0])
        self.through("over age 9", ages=[10], no_ages=[None, 9, 8])

    def test_over_texts(self):
        self.through("over name 'b", names=["ba", "b-", "c", "zz"], no_names=[None, "b", "a", "azz", "", "9"])
        self.through("over name '", names=["-", "0", "a"], no_names=[None, ""])

    def test_holds(self):
        self.through("holds name 'da", names=["da", "ada", "dab", "adab", "xxda"],
                     no_names=[None, "", "d", "a", "ad", "dxa"])
        self.through("holds name '-", names=["-", "a-b"], no_names=[None, "", "ab"])
        self.through("holds name 'ada", names=["ada", "adada"], no_names=[None, "ad", "da"])

    def test_the_text_without_signs_is_a_part_of_each(self):
        self.through("holds name '", names=["", "a", "ada", "-", "z" * 20], no_names=[None])

    def test_the_column_named_is_asked(self):
        for word in ("is", "under", "over"):
            values = {"is": 5, "under": 4, "over": 6}
            with self.subTest(word=word):
                self.assertIs(True, lets(word + " size 5", [None, None, values[word]]))
                self.assertIs(False, lets(word + " size 5", [values[word], "5", None]))
                self.assertIs(True, lets(word + " age 5", [values[word], "5", None]))

    def test_a_value_of_twenty_signs(self):
        self.through("is name '" + "z" * 20, names=["z" * 20], no_names=["z" * 19, None])


class OfSieves(unittest.TestCase):
    def test_not(self):
        for text, values in itertools.product(
            ("all", "none age", "is age 5", "under age 5", "over age 5", "holds name 'a"),
            ([None, None, None], [4, "a", 1], [5, "b", 1], [6, "", 1]),
        ):
            with self.subTest(text=text, values=values):
                self.assertIs(not lets(text, values), lets("not " + text, values))
                self.assertIs(lets(text, values), lets("not not " + text, values))

    def test_not_lets_none_through_where_the_other_does_not(self):
        for text in ("not is age 5", "not under age 5", "not over age 5", "not holds name '", "not is name '"):
            with self.subTest(text=text):
                self.assertIs(True, lets(text, [None, None, None]))

    def test_both_and_either(self):
        ages = {True: 5, False: 6}
        names = {True: "ada", False: "bob"}
        for one, other in itertools.product((True, False), repeat=2):
            values = [ages[one], names[other], None]
            with self.subTest(values=values):
                self.assertIs(one and other, lets("both is age 5 holds name 'd", values))
                self.assertIs(one or other, lets("either is age 5 holds name 'd", values))
                self.assertIs(one and other, lets("both holds name 'd is age 5", [values[0], values[1], None]))
                self.assertIs(one or other, lets("either holds name 'd is age 5", [values[0], values[1], None]))

    def test_within_one_another(self):
        parts = ("is age 1", "is name 'x", "is size 1")
        for one, two, three in itertools.product((True, False), repeat=3):
            values = [int(one), "x" if two else "y", int(three)]
            for text, wanted in (
                (f"both {parts[0]} either {parts[1]} {parts[2]}", one and (two or three)),
                (f"both either {parts[0]} {parts[1]} {parts[2]}", (one or two) and three),
                (f"either {parts[0]} both {parts[1]} {parts[2]}", one or (two and three)),
                (f"either both {parts[0]} {parts[1]} {parts[2]}", (one and two) or three),
                (f"not both {parts[0]} not either {parts[1]} {parts[2]}", not (one and not (two or three))),
                (f"both not {parts[0]} either not {parts[1]} {parts[2]}", not one and (not two or three)),
                (f"either both not {parts[0]} {parts[1]} both {parts[0]} not {parts[1]}", one != two),
            ):
                with self.subTest(text=text, values=values):
                    self.assertIs(wanted, lets(text, values))


class CalledLikeWords(unittest.TestCase):
    """A row of these columns has values 1, 'a, 'all, 2, None, 3."""

    VALUES = [1, "a", "all", 2, None, 3]

    def test_each(self):
        for text, wanted in (
            ("none none", False), ("none both", True), ("none all", False), ("is all 1", True), ("is is 'all", True),
            ("is is 'is", False), ("over over 2", True), ("over over 3", False), ("under not 3", True),
            ("not is not 2", False), ("both is not 2 none both", True), ("both none both is none 'a", True),
            ("either none is over all 0", True), ("either none none none is", False), ("holds is 'll", True),
            ("both all all", True), ("not all", False), ("not none both", False), ("holds none 'b", False),
        ):
            with self.subTest(text=text):
                self.assertIs(wanted, lets(text, list(self.VALUES), WORDS))


class Bounds(unittest.TestCase):
    def of_sixty_words(self):
        # nineteen of both, each with a sieve of two words, and one of three: 19 + 38 + 3.
        return "both none age " * 19 + "is name 'a"

    def test_sixty_words(self):
        text = self.of_sixty_words()
        self.assertEqual(60, len(text.split(" ")))
        self.assertEqual(text, read_sieve(COLUMNS, text).shown())
        self.assertIs(True, lets(text, [None, "a", 1]))
        self.assertIs(False, lets(text, [None, "b", 1]))
        self.assertIs(False, lets(text, [1, "a", 1]))

    def test_twenty_of_not(self):
        for many in range(21):
            with self.subTest(many=many):
                self.assertIs((many % 2 == 0), lets("not " * many + "is age 5", [5, None, None]))

    def test_twenty_in_first_parts(self):
        for text in ("both " * 20 + "is age 5" + " all" * 20, "both " * 20 + "all" + " all" * 19 + " is age 5",
                     "either " * 18 + "not not is age 5" + " none age" * 18):
            with self.subTest(text=text):
                self.assertIs(True, lets(text, [5, None, None]))
                self.assertIs(False, lets(text, [6, None, None]))

    def test_twenty_in_second_parts(self):
        self.assertIs(True, lets("both all " * 20 + "is age 5", [5, None, None]))
        self.assertIs(False, lets("both all " * 20 + "is age 5", [6, None, None]))
        self.assertIs(True, lets("either none age " * 17 + "either is age 4 is age 5", [5, None, None]))
        self.assertIs(False, lets("either none age " * 17 + "either is age 4 is age 5", [6, None, None]))

    def test_twenty_of_all_three(self):
        text = "not both all either none age " * 6 + "not not is age 5"
        self.assertEqual(20, sum(word in ("not", "both", "either") for word in text.split(" ")))
        self.assertIs(True, lets(text, [5, None, None]))
        self.assertIs(False, lets(text, [6, None, None]))

    def test_more_than_twenty_beside_one_another(self):
        text = "both " + "not " * 19 + "none age " + "not " * 19 + "is name 'a"
        self.assertIs(True, lets(text, [5, "b", None]))
        self.assertIs(False, lets(text, [None, "b", None]))
        self.assertIs(False, lets(text, [5, "a", None]))


class ByAModel(unittest.TestCase):
    """Sieves that are built by chance of a set seed, each beside a function that says the same in Python."""

    ROWS = [list(row) for row in itertools.product((None, -1, 0, 12), (None, "", "a", "ba"), (None, 5))]

    def plain(self, chance):
        name, place = chance.choice([("age", 0), ("name", 1), ("size", 2)])
        texts, numbers = [("'", ""), ("'a", "a"), ("'b", "b")], [("0", 0), ("-1", -1), ("5", 5)]
        word, value = chance.choice(texts if place == 1 else numbers)
        made = [
            ("all", lambda row: True),
            (f"none {name}", lambda row: row[place] is None),
            (f"is {name} {word}", lambda row: row[place] is not None and row[place] == value),
            (f"under {name} {word}", lambda row: row[place] is not None and row[place] < value),
            (f"over {name} {word}", lambda row: row[place] is not None and row[place] > value),
        ]
        if place == 1:
            made.append((f"holds {name} {word}", lambda row: row[place] is not None and row[place].find(value) >= 0))
        return chance.choice(made)

    def built(self, chance, depth):
        if depth == 0:
            return self.plain(chance)
        one, says_one = self.built(chance, depth - 1)
        other, says_other = self.built(chance, chance.randrange(depth))
        return chance.choice([
            (f"not {one}", lambda row: not says_one(row)),
            (f"both {one} {other}", lambda row: says_one(row) and says_other(row)),
            (f"either {other} {one}", lambda row: says_one(row) or says_other(row)),
        ])

    def test_each_row(self):
        chance = random.Random(7)
        for turn in range(300):
            text, says = self.built(chance, turn % 5)
            if len(text.split(" ")) <= 60:
                sieve = read_sieve(COLUMNS, text)
                with self.subTest(text=text):
                    self.assertEqual([says(row) for row in self.ROWS], [sieve.lets(row) for row in self.ROWS])
                    self.assertEqual(text, sieve.shown())


class Shown(unittest.TestCase):
    TEXTS = (
        "all", "none age", "is age 5", "is age -5", "is name '", "is name 'a-0", "under size 0", "over name 'all",
        "holds name '", "not all", "both all none age", "either is age 1 not both under size 3 holds name 'x",
        "both not not all either all all",
    )

    def test_the_very_text(self):
        for text in self.TEXTS:
            with self.subTest(text=text):
                sieve = read_sieve(COLUMNS, text)
                self.assertEqual(text, sieve.shown())
                sieve.lets([1, "x", None])
                self.assertEqual(text, sieve.shown())

    def test_each_is_a_sieve(self):
        for text in self.TEXTS:
            with self.subTest(text=text):
                self.assertIsInstance(read_sieve(COLUMNS, text), Sieve)


class NothingHangsTogether(unittest.TestCase):
    def test_lets_asked_twice(self):
        sieve = read_sieve(COLUMNS, "either not is age 5 both holds name 'a over size 3")
        rows = [[5, "a", 4], [5, "b", 4], [6, "b", 4], [None, None, None], [5, "ba", None]]
        for turn in range(3):
            self.assertEqual([True, False, True, True, False], [sieve.lets(values) for values in rows])

    def test_values_stay(self):
        values = [5, "a", None]
        for text in Shown.TEXTS:
            read_sieve(COLUMNS, text).lets(values)
            self.assertEqual([5, "a", None], values)

    def test_columns_are_changed_behind_the_call(self):
        columns = list(COLUMNS)
        sieve = read_sieve(columns, "both is size 3 holds name 'a")
        self.assertEqual(COLUMNS, columns)
        columns.reverse()
        columns.pop()
        columns[0] = ("name", "number")
        self.assertIs(True, sieve.lets([None, "xax", 3]))
        self.assertIs(False, sieve.lets([3, "xax", None]))
        self.assertEqual("both is size 3 holds name 'a", sieve.shown())

    def test_two_sieves_at_once(self):
        one, other = read_sieve(COLUMNS, "is age 5"), read_sieve(COLUMNS, "is age 6")
        self.assertEqual([True, False], [one.lets([5, None, None]), other.lets([5, None, None])])
        self.assertEqual(["is age 5", "is age 6"], [one.shown(), other.shown()])


if __name__ == "__main__":
    unittest.main()
