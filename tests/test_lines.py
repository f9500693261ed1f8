"""Promise 19: lines and the places of cuts; of promise 2 what stays."""

import itertools
import random
import unittest

from turnleaf.lines import cut_place, line_of
from turnleaf.orders import key_ahead, key_of, read_order

COLUMNS = [("age", "number"), ("name", "text"), ("size", "number"), ("town", "text")]
ROWS = [
    (1, [30, "bob", None, "x"]), (2, [None, "ada", 5, "x"]), (3, [30, "ada", 5, None]), (4, [-1, None, 0, "x"]),
    (5, [30, "ada", 5, ""]), (6, [None, "", None, "y"]), (10, [9, "10", 1, "y"]), (11, [10, "9", 1, "y"]),
]
LINES = [
    ("", [1, 2, 3, 4, 5, 6, 10, 11]),
    ("+age", [2, 6, 4, 10, 11, 1, 3, 5]),
    ("-age", [1, 3, 5, 11, 10, 4, 2, 6]),
    ("+name", [4, 6, 10, 11, 2, 3, 5, 1]),
    ("-name", [1, 2, 3, 5, 11, 10, 6, 4]),
    ("+size", [1, 6, 4, 10, 11, 2, 3, 5]),
    ("-size", [2, 3, 5, 10, 11, 4, 1, 6]),
    ("+age +name", [6, 2, 4, 10, 11, 3, 5, 1]),
    ("+age -name", [2, 6, 4, 10, 11, 1, 3, 5]),
    ("-age +name", [3, 5, 1, 11, 10, 4, 6, 2]),
    ("+name +age", [4, 6, 10, 11, 2, 3, 5, 1]),
    ("-size +town -age", [3, 5, 2, 11, 10, 4, 1, 6]),
    ("-age +name -size -town", [5, 3, 1, 11, 10, 4, 6, 2]),
    ("-age +name -size +town", [3, 5, 1, 11, 10, 4, 6, 2]),
]


def numbers(line):
    return [row for row, values in line]


def line_by(text, rows):
    return line_of(COLUMNS, read_order(COLUMNS, text), rows)


class Lines(unittest.TestCase):
    def test_of_no_row_and_of_one(self):
        for text, wanted in LINES:
            with self.subTest(text=text):
                self.assertEqual([], line_by(text, []))
                for told in ROWS:
                    self.assertEqual([told], line_by(text, [told]))

    def test_of_many(self):
        for text, wanted in LINES:
            with self.subTest(text=text):
                line = line_by(text, ROWS)
                self.assertEqual(wanted, numbers(line))
                self.assertEqual(sorted(ROWS), sorted(line, key=lambda told: told[0]))
                self.assertEqual({(tuple, list)}, {(told.__class__, told[1].__class__) for told in line})

    def test_handed_in_in_another_order(self):
        chance = random.Random(3)
        for text, wanted in LINES:
            for turn in range(20):
                rows = list(ROWS)
                chance.shuffle(rows)
                self.assertEqual(wanted, numbers(line_by(text, rows)))
            self.assertEqual(wanted, numbers(line_by(text, ROWS[::-1])))

    def test_ties_go_by_the_number(self):
        rows = [(row, [7, "a", None, None]) for row in (10, 9, 100, 0, 10 ** 9, 2)]
        for text in ("", "+age", "-age", "-age -name", "-size", "+size -town +age -name"):
            with self.subTest(text=text):
                self.assertEqual([0, 2, 9, 10, 100, 10 ** 9], numbers(line_by(text, rows)))

    def test_each_is_ahead_of_the_next(self):
        chance = random.Random(5)
        rows = [(row, [chance.choice([None, -1, 0, 10, 9]), chance.choice([None, "", "a", "ab"]),
                       chance.choice([None, 3]), chance.choice(["10", "9"])]) for row in range(120)]
        for ups in itertools.product((True, False), repeat=4):
            order = list(zip(("name", "size", "age", "town"), ups))
            keys = [key_of(COLUMNS, order, row, values) for row, values in line_of(COLUMNS, order, rows)]
            self.assertEqual(120, len(keys))
            self.assertTrue(all(key_ahead(order, one, other) for one, other in zip(keys, keys[1:])))


class NothingHangsTogether(unittest.TestCase):
    def test_what_is_handed_in_stays(self):
        columns, order = list(COLUMNS), read_order(COLUMNS, "-age +name")
        rows = [(row, list(values)) for row, values in reversed(ROWS)]
        line = line_of(columns, order, rows)
        cut_place(columns, order, line, ("ahead", ([30, "ada"], 3)))
        self.assertEqual((COLUMNS, [("age", False), ("name", True)], ROWS[::-1]), (columns, order, rows))
        self.assertEqual([3, 5, 1, 11, 10, 4, 6, 2], numbers(line))

    def test_rows_are_changed_behind_the_call(self):
        for text in ("", "+age"):
            rows = [(row, list(values)) for row, values in ROWS]
            line = line_by(text, rows)
            for row, values in rows:
                values.clear()
            rows.clear()
            self.assertEqual(ROWS, sorted(line))

    def test_a_line_is_the_askers_own(self):
        rows = [(row, list(values)) for row, values in ROWS]
        line = line_by("", rows)
        line[0][1].clear()
        line.clear()
        self.assertEqual(ROWS, rows)


class Cuts(unittest.TestCase):
    def test_start_and_end(self):
        for text, wanted in LINES:
            order = read_order(COLUMNS, text)
            for rows in ([], ROWS[:1], ROWS):
                line = line_of(COLUMNS, order, rows)
                self.assertEqual(0, cut_place(COLUMNS, order, line, ("start",)))
                self.assertEqual(len(rows), cut_place(COLUMNS, order, line, ("end",)))

    def test_at_the_key_of_each_row(self):
        for text, wanted in LINES:
            order = read_order(COLUMNS, text)
            line = line_of(COLUMNS, order, ROWS)
            for place, (row, values) in enumerate(line):
                key = key_of(COLUMNS, order, row, values)
                with self.subTest(text=text, row=row):
                    self.assertEqual(place, cut_place(COLUMNS, order, line, ("ahead", key)))
                    self.assertEqual(place + 1, cut_place(COLUMNS, order, line, ("behind", key)))

    def test_at_the_key_of_a_row_that_is_not_there(self):
        for text, wanted in LINES:
            order = read_order(COLUMNS, text)
            line = line_of(COLUMNS, order, ROWS)
            for place, (row, values) in enumerate(line):
                key = key_of(COLUMNS, order, row, values)
                others = line[:place] + line[place + 1:]
                with self.subTest(text=text, row=row):
                    self.assertEqual(place, cut_place(COLUMNS, order, others, ("ahead", key)))
                    self.assertEqual(place, cut_place(COLUMNS, order, others, ("behind", key)))

    def test_written_out(self):
        line = [(4, [1, None, None, None]), (9, [1, None, None, None]), (2, [5, None, None, None])]
        self.places([("age", True)], line, [
            (([None], 0), 0, 0), (([0], 99), 0, 0), (([1], 3), 0, 0), (([1], 4), 0, 1), (([1], 5), 1, 1),
            (([1], 9), 1, 2), (([1], 10), 2, 2), (([4], 0), 2, 2), (([5], 1), 2, 2), (([5], 2), 2, 3),
            (([5], 3), 3, 3), (([6], 0), 3, 3)])

    def test_going_down_and_none(self):
        line = [(3, [8, None, None, None]), (2, [3, None, None, None]), (1, [None, None, None, None])]
        self.places([("age", False)], line, [
            (([9], 0), 0, 0), (([8], 3), 0, 1), (([8], 4), 1, 1), (([3], 1), 1, 1), (([3], 2), 1, 2),
            (([None], 0), 2, 2), (([None], 1), 2, 3), (([None], 2), 3, 3)])

    def places(self, order, line, wanted):
        for key, ahead, behind in wanted:
            with self.subTest(key=key):
                self.assertEqual(ahead, cut_place(COLUMNS, order, line, ("ahead", key)))
                self.assertEqual(behind, cut_place(COLUMNS, order, line, ("behind", key)))

    def test_by_counting(self):
        chance = random.Random(9)
        ages, names = [None, 0, 1, 2], [None, "", "a", "b"]
        for turn in range(60):
            order = read_order(COLUMNS, chance.choice(["", "+age", "-age", "+name -age", "-name +age", "-age -name"]))
            chosen = chance.sample(range(40), chance.randrange(30))
            rows = [(row, [chance.choice(ages), chance.choice(names), None, None]) for row in chosen]
            line = line_of(COLUMNS, order, rows)
            keys = [key_of(COLUMNS, order, row, values) for row, values in rows]
            for row in range(40):
                key = key_of(COLUMNS, order, row, [chance.choice(ages), chance.choice(names), None, None])
                ahead = sum(key_ahead(order, one, key) for one in keys)
                self.assertEqual(ahead, cut_place(COLUMNS, order, line, ("ahead", key)))
                self.assertEqual(ahead + (key in keys), cut_place(COLUMNS, order, line, ("behind", key)))


if __name__ == "__main__":
    unittest.main()
