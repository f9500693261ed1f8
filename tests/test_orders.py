"""Promises 13 and 14: orders, how they are written, keys, and which one comes ahead; of promise 2 what stays."""

import itertools
import unittest

from turnleaf.errors import NoOrder
from turnleaf.orders import key_ahead, key_of, order_text, read_order

COLUMNS = [("age", "number"), ("name", "text"), ("size", "number"), ("town", "text"), ("a", "text"), ("ag", "number")]
WRITTEN = [
    ([], ""),
    ([("age", True)], "+age"),
    ([("age", False)], "-age"),
    ([("ag", True)], "+ag"),
    ([("a", False)], "-a"),
    ([("name", False), ("age", True)], "-name +age"),
    ([("age", True), ("name", False)], "+age -name"),
    ([("age", True), ("ag", True), ("a", True)], "+age +ag +a"),
    ([("town", True), ("name", False), ("age", False), ("size", True)], "+town -name -age +size"),
    ([("ag", False), ("a", False), ("town", False), ("size", False)], "-ag -a -town -size"),
]
NO_ORDERS = [
    # another sign ahead
    "*age", "=age", "'age", "?age", "~age", "<age", "_age", "+age *name", "*age +name", "+age -name =size",
    # no sign
    "age", "age +name", "+age name", "name+", "age-", "+age -name size",
    # two signs
    "++age", "--age", "+-age", "-+age",
    # a name that no column has
    "+q", "-q", "+ages", "+Age", "+AGE", "+ame", "+nam", "+age -q", "-q +age", "+number", "+agesize", "+0", "+?",
    "+age,name", "+age+name", "+age-name",
    # one twice
    "+age +age", "-age -age", "+age -age", "-age +age", "+age +name +age", "+name -age +size +age",
    "+age +name +size -size",
    # five and more
    "+age +name +size +town +a", "-age -name -size -town -ag", "+age +name +size +town +a +ag",
    "+age +age +age +age +age",
    # a blank more ahead, behind and between
    " ", "  ", " +age", "+age ", "+age  +name", "  +age", "+age  ", "+age +name ", " +age +name", "+age +name  -size",
    "+ age", "- age",
    # no blank but another white sign
    "+age\t+name", "+age\n", "+age\n+name",
    # a sign alone
    "+", "-", "+ -", "+age +", "- +age", "+age - +name",
]


class Written(unittest.TestCase):
    def test_an_order_is_written(self):
        for order, text in WRITTEN:
            with self.subTest(text=text):
                self.assertEqual(text, order_text(order))

    def test_a_text_is_read(self):
        for order, text in WRITTEN:
            with self.subTest(text=text):
                back = read_order(COLUMNS, text)
                self.assertEqual(order, back)
                self.assertIs(list, back.__class__)
                for part in back:
                    self.assertIs(tuple, part.__class__)
                    self.assertIn(part[1].__class__, [bool])

    def test_every_order_of_up_to_four_is_read_back(self):
        names = [name for name, kind in COLUMNS]
        for many in range(5):
            for chosen in itertools.permutations(names[:5], many):
                for ups in itertools.product((True, False), repeat=many):
                    order = list(zip(chosen, ups))
                    self.assertEqual(order, read_order(COLUMNS, order_text(order)))

    def test_four_of_four_columns(self):
        self.assertEqual(4, len(read_order(COLUMNS[:4], "+age +name +size +town")))
        self.assertEqual([("age", True)], read_order([("age", "text")], "+age"))


class Refused(unittest.TestCase):
    def test_each(self):
        for text in NO_ORDERS:
            columns = list(COLUMNS)
            with self.subTest(text=text):
                self.assertRaises(NoOrder, read_order, columns, text)
                self.assertEqual(COLUMNS, columns)

    def test_every_other_sign_ahead(self):
        for code in range(32, 127):
            sign = chr(code)
            if sign not in "+-":
                with self.subTest(sign=sign):
                    self.assertRaises(NoOrder, read_order, COLUMNS, sign + "age")

    def test_a_name_of_other_columns(self):
        self.assertRaises(NoOrder, read_order, COLUMNS[:2], "+size")
        self.assertRaises(NoOrder, read_order, COLUMNS[:2], "+age -size")

    def test_long_texts(self):
        self.assertRaises(NoOrder, read_order, COLUMNS, "+" * 4000)
        self.assertRaises(NoOrder, read_order, COLUMNS, " " * 4000)
        self.assertRaises(NoOrder, read_order, COLUMNS, " ".join(["+age"] * 800))


class NothingHangsTogether(unittest.TestCase):
    def test_an_order_that_was_read_is_the_askers_own(self):
        for order, text in WRITTEN:
            back = read_order(COLUMNS, text)
            back.append(("size", False))
            back.reverse()
            with self.subTest(text=text):
                self.assertEqual(order, read_order(COLUMNS, text))

    def test_columns_are_changed_behind_the_call(self):
        columns = list(COLUMNS)
        order = read_order(columns, "+age -name")
        columns.clear()
        self.assertEqual([("age", True), ("name", False)], order)
        self.assertRaises(NoOrder, read_order, columns, "+age")

    def test_what_is_handed_in_stays(self):
        order, columns, values = [("age", True), ("town", False)], list(COLUMNS), [1, "b", 3, "d", "e", 6]
        order_text(order)
        key = key_of(columns, order, 5, values)
        other = key_of(columns, order, 6, values)
        key_ahead(order, key, other)
        self.assertEqual([("age", True), ("town", False)], order)
        self.assertEqual((COLUMNS, [1, "b", 3, "d", "e", 6]), (columns, values))
        self.assertEqual((([1, "d"], 5), ([1, "d"], 6)), (key, other))

    def test_a_key_is_the_askers_own(self):
        order, values = read_order(COLUMNS, "+age +name"), [1, "b", 3, "d", "e", 6]
        key = key_of(COLUMNS, order, 5, values)
        values[0] = 100
        order.clear()
        self.assertEqual(([1, "b"], 5), key)
        key[0].clear()
        self.assertEqual([100, "b", 3, "d", "e", 6], values)


class Keys(unittest.TestCase):
    def test_the_key_of_a_row(self):
        values = [30, "ada", None, "", "x", -7]
        for text, wanted in (
            ("", []), ("+age", [30]), ("-age", [30]), ("+ag", [-7]), ("-a", ["x"]), ("+size", [None]),
            ("+name -age", ["ada", 30]), ("+age -name", [30, "ada"]), ("+town +size +ag", ["", None, -7]),
            ("-ag +a -town +age", [-7, "x", "", 30]),
        ):
            with self.subTest(text=text):
                key = key_of(COLUMNS, read_order(COLUMNS, text), 12, values)
                self.assertEqual((wanted, 12), key)
                self.assertEqual((tuple, list), (key.__class__, key[0].__class__))

    def test_its_number(self):
        for row in (0, 1, 10 ** 9):
            self.assertEqual(([], row), key_of(COLUMNS, [], row, [None] * 6))


class Ahead(unittest.TestCase):
    def one_ahead(self, order, one, other):
        with self.subTest(order=order, one=one, other=other):
            self.assertIs(True, key_ahead(order, one, other))
            self.assertIs(False, key_ahead(order, other, one))

    def test_numbers(self):
        for before, behind in ((9, 10), (-1, 0), (-10, -9), (None, -10 ** 18), (None, 0), (10 ** 18 - 1, 10 ** 18)):
            self.one_ahead([("age", True)], ([before], 5), ([behind], 5))
            self.one_ahead([("age", True)], ([before], 9), ([behind], 1))
            self.one_ahead([("age", False)], ([behind], 9), ([before], 1))

    def test_texts(self):
        for before, behind in (("10", "9"), ("a", "ab"), ("ab", "b"), ("-", "0"), ("9", "a"), (None, ""), ("", "-")):
            self.one_ahead([("name", True)], ([before], 9), ([behind], 1))
            self.one_ahead([("name", False)], ([behind], 9), ([before], 1))

    def test_the_first_unlike_value(self):
        order = [("age", True), ("name", False), ("size", True)]
        self.one_ahead(order, ([1, "a", 9], 9), ([2, "b", 1], 1))
        self.one_ahead(order, ([1, "b", 9], 9), ([1, "a", 1], 1))
        self.one_ahead(order, ([1, "b", 1], 9), ([1, "b", 9], 1))
        self.one_ahead(order, ([None, "b", None], 9), ([None, "b", 0], 1))
        self.one_ahead(order, ([None, "", 0], 9), ([None, None, 0], 1))

    def test_the_number_where_all_are_alike(self):
        for order, values in (([], []), ([("age", True)], [3]), ([("age", False)], [3]), ([("name", False)], [None]),
                              ([("age", False), ("name", False)], [None, ""])):
            for less, more in ((0, 1), (9, 10), (0, 10 ** 9)):
                self.one_ahead(order, (values, less), (list(values), more))

    def test_not_ahead_of_itself(self):
        for order, values in (([], []), ([("age", True)], [3]), ([("age", False)], [None]), ([("name", False)], ["x"])):
            with self.subTest(order=order, values=values):
                self.assertIs(False, key_ahead(order, (values, 4), (list(values), 4)))


class AheadByAModel(unittest.TestCase):
    """Against places in lists that are written out rising."""

    RISING = {"age": [None, -2, 10], "name": [None, "", "a", "ab"], "size": [None, 9], "town": ["10", "9"]}

    def ranks(self, order, key):
        places = [self.RISING[name].index(value) for (name, up), value in zip(order, key[0])]
        return [place if up else -place for (name, up), place in zip(order, places)] + [key[1]]

    def test_every_two_keys(self):
        names = list(self.RISING)
        for many in range(5):
            for ups in itertools.product((True, False), repeat=many):
                order = list(zip(names, ups))
                chosen = itertools.product(*[self.RISING[name] for name in names[:many]])
                keys = [(list(values), row) for values in chosen for row in ((3, 4) if many < 3 else (3,))]
                for one, other in itertools.product(keys, repeat=2):
                    wanted = self.ranks(order, one) < self.ranks(order, other)
                    if key_ahead(order, one, other) is not wanted:
                        self.fail(f"{order} {one} {other}")


if __name__ == "__main__":
    unittest.main()
