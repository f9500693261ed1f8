"""Promises 23 and 24: leaves forth and back from a cut, and the cuts of their marks; of promise 2 what stays."""

import copy
import random
import unittest

from helper import COLUMNS, NO_SIZES
from turnleaf.errors import NoSize
from turnleaf.leaves import leaf_back, leaf_forth
from turnleaf.lines import line_of
from turnleaf.orders import key_ahead, key_of, read_order

UP = [("age", True)]
LINE = [(4, [1, "d"]), (9, [1, "a"]), (2, [5, "b"]), (7, [8, None]), (1, [9, "a"])]
SIZES = (1, 2, 3, 4, 5, 6, 99, 100)


def rows_of(*numbers):
    return [told for number in numbers for told in LINE if told[0] == number]


def is_ahead(order, key, cut):
    """Whether a row with this key lies ahead of the cut."""
    if len(cut) == 1:
        return cut == ("end",)
    return key_ahead(order, key, cut[1]) or (cut[0] == "behind" and key == cut[1])


def leaf_wanted(order, line, cut, size, onward):
    """A leaf as the promises have it, with every row asked by itself whether it lies ahead of the cut."""
    keys = {row: key_of(COLUMNS, order, row, values) for row, values in line}
    ahead = [told for told in line if is_ahead(order, keys[told[0]], cut)]
    behind = [told for told in line if not is_ahead(order, keys[told[0]], cut)]
    here = behind[:size] if onward else ahead[-size:]
    if not here:
        return here, cut if ahead else None, cut if behind else None, len(ahead)
    first, last = keys[here[0][0]], keys[here[-1][0]]
    leading = sum(key_ahead(order, key, first) for key in keys.values())
    following = sum(key_ahead(order, last, key) for key in keys.values())
    return here, ("ahead", first) if leading else None, ("behind", last) if following else None, leading


class FromStartAndEnd(unittest.TestCase):
    def test_forth_from_the_start(self):
        for size, wanted in (
            (1, (rows_of(4), None, ("behind", ([1], 4)), 0)),
            (2, (rows_of(4, 9), None, ("behind", ([1], 9)), 0)),
            (4, (rows_of(4, 9, 2, 7), None, ("behind", ([8], 7)), 0)),
            (5, (LINE, None, None, 0)), (6, (LINE, None, None, 0)), (100, (LINE, None, None, 0)),
        ):
            with self.subTest(size=size):
                self.assertEqual(wanted, leaf_forth(COLUMNS, UP, LINE, ("start",), size))

    def test_back_from_the_end(self):
        for size, wanted in (
            (1, (rows_of(1), ("ahead", ([9], 1)), None, 4)),
            (2, (rows_of(7, 1), ("ahead", ([8], 7)), None, 3)),
            (4, (rows_of(9, 2, 7, 1), ("ahead", ([1], 9)), None, 1)),
            (5, (LINE, None, None, 0)), (6, (LINE, None, None, 0)), (100, (LINE, None, None, 0)),
        ):
            with self.subTest(size=size):
                self.assertEqual(wanted, leaf_back(COLUMNS, UP, LINE, ("end",), size))

    def test_leaves_without_rows_have_their_own_cut(self):
        for size in SIZES:
            self.assertEqual(([], ("end",), None, 5), leaf_forth(COLUMNS, UP, LINE, ("end",), size))
            self.assertEqual(([], None, ("start",), 0), leaf_back(COLUMNS, UP, LINE, ("start",), size))
            for cut in (("behind", ([9], 1)), ("ahead", ([9], 2)), ("behind", ([10], 0))):
                self.assertEqual(([], cut, None, 5), leaf_forth(COLUMNS, UP, LINE, cut, size))
            for cut in (("ahead", ([1], 4)), ("behind", ([1], 3)), ("ahead", ([None], 9))):
                self.assertEqual(([], None, cut, 0), leaf_back(COLUMNS, UP, LINE, cut, size))


class FromKeys(unittest.TestCase):
    def test_forth_written_out(self):
        for cut, size, wanted in (
            (("behind", ([1], 4)), 2, (rows_of(9, 2), ("ahead", ([1], 9)), ("behind", ([5], 2)), 1)),
            (("ahead", ([1], 4)), 2, (rows_of(4, 9), None, ("behind", ([1], 9)), 0)),
            (("behind", ([5], 2)), 2, (rows_of(7, 1), ("ahead", ([8], 7)), None, 3)),
            (("ahead", ([5], 2)), 1, (rows_of(2), ("ahead", ([5], 2)), ("behind", ([5], 2)), 2)),
            (("behind", ([8], 7)), 3, (rows_of(1), ("ahead", ([9], 1)), None, 4)),
            (("behind", ([1], 5)), 1, (rows_of(9), ("ahead", ([1], 9)), ("behind", ([1], 9)), 1)),
        ):
            with self.subTest(cut=cut, size=size):
                self.assertEqual(wanted, leaf_forth(COLUMNS, UP, LINE, cut, size))

    def test_back_written_out(self):
        for cut, size, wanted in (
            (("ahead", ([9], 1)), 2, (rows_of(2, 7), ("ahead", ([5], 2)), ("behind", ([8], 7)), 2)),
            (("behind", ([9], 1)), 2, (rows_of(7, 1), ("ahead", ([8], 7)), None, 3)),
            (("ahead", ([5], 2)), 2, (rows_of(4, 9), None, ("behind", ([1], 9)), 0)),
            (("behind", ([5], 2)), 1, (rows_of(2), ("ahead", ([5], 2)), ("behind", ([5], 2)), 2)),
            (("ahead", ([1], 9)), 3, (rows_of(4), None, ("behind", ([1], 4)), 0)),
            (("ahead", ([1], 5)), 1, (rows_of(4), None, ("behind", ([1], 4)), 0)),
        ):
            with self.subTest(cut=cut, size=size):
                self.assertEqual(wanted, leaf_back(COLUMNS, UP, LINE, cut, size))

    def as_wanted(self, order, line, cut, size):
        with self.subTest(order=order, line=line, cut=cut, size=size):
            forth = leaf_forth(COLUMNS, order, line, cut, size)
            self.assertEqual(leaf_wanted(order, line, cut, size, True), forth)
            back = leaf_back(COLUMNS, order, line, cut, size)
            self.assertEqual(leaf_wanted(order, line, cut, size, False), back)
            self.assertEqual((tuple, list, tuple, list), (forth.__class__, forth[0].__class__, back.__class__,
                                                          back[0].__class__))

    def test_lines_of_none_and_one(self):
        for line in ([], [(4, [1, "d"])]):
            for cut in [("start",), ("end",)] + [(side, ([age], row)) for side in ("ahead", "behind")
                                                 for age in (None, 0, 1, 2) for row in (3, 4, 5)]:
                for size in SIZES:
                    self.as_wanted(UP, line, cut, size)

    def test_at_each_row_and_between(self):
        chance = random.Random(21)
        for text in ("", "+age", "-age", "+name -age", "-name"):
            order = read_order(COLUMNS, text)
            rows = [(row, [chance.choice([None, 0, 1]), chance.choice([None, "", "a"])]) for row in range(0, 18, 2)]
            line = line_of(COLUMNS, order, rows)
            cuts = [("start",), ("end",)]
            for row in range(-1, 18):
                for values in [values for number, values in rows if number == row] or [[None, ""], [1, "a"], [0, "b"]]:
                    key = key_of(COLUMNS, order, row, values)
                    cuts += [("ahead", key), ("behind", key)]
            for cut in cuts:
                for size in (1, 2, 3, 8, 9, 10, 100):
                    self.as_wanted(order, line, cut, size)

    def test_a_line_beyond_the_largest_size(self):
        line = [(row, [row, None]) for row in range(250)]
        for cut in (("start",), ("behind", ([99], 99)), ("ahead", ([150], 150)), ("behind", ([149], 149)), ("end",)):
            for size in (1, 99, 100):
                self.as_wanted(UP, line, cut, size)


class Sizes(unittest.TestCase):
    def test_no_sizes(self):
        for size in NO_SIZES + (True, False):
            for line in ([], LINE):
                for cut in (("start",), ("end",), ("ahead", ([5], 2)), ("behind", ([5], 2))):
                    with self.subTest(size=size, cut=cut):
                        self.assertRaises(NoSize, leaf_forth, COLUMNS, UP, line, cut, size)
                        self.assertRaises(NoSize, leaf_back, COLUMNS, UP, line, cut, size)

    def test_each_size(self):
        line = [(row, [row, None]) for row in range(120)]
        for size in range(1, 101):
            self.assertEqual(line[:size], leaf_forth(COLUMNS, UP, line, ("start",), size)[0])
            self.assertEqual(line[-size:], leaf_back(COLUMNS, UP, line, ("end",), size)[0])


class NothingHangsTogether(unittest.TestCase):
    CUTS = (("start",), ("end",), ("ahead", ([5], 2)), ("behind", ([5], 2)), ("behind", ([9], 1)), ("ahead", ([1], 4)))

    def each(self):
        for told in (leaf_forth, leaf_back):
            for cut in self.CUTS:
                handed = copy.deepcopy((COLUMNS, UP, LINE, cut, 2))
                yield handed, told(*handed)

    def test_what_is_handed_in_stays(self):
        for (columns, order, line, cut, size), leaf in self.each():
            self.assertEqual((COLUMNS, UP, LINE), (columns, order, line))
            self.assertIn(cut, self.CUTS)

    def test_what_is_handed_in_is_changed_behind_the_call(self):
        for (columns, order, line, cut, size), leaf in self.each():
            ahead = copy.deepcopy(leaf)
            for row, values in line:
                values.clear()
            if len(cut) > 1:
                cut[1][0].append(99)
            for handed in (columns, order, line):
                handed.clear()
            self.assertEqual(ahead, leaf)

    def test_a_leaf_is_the_askers_own(self):
        for (columns, order, line, cut, size), (here, back, forth, ahead) in self.each():
            cut_ahead = copy.deepcopy(cut)
            for row, values in here:
                values.clear()
            self.assertNotIn([], [told[1][0] for told in (back, forth) if told is not None and len(told) > 1])
            for told in (back, forth):
                if told is not None and len(told) > 1:
                    told[1][0].clear()
            here.clear()
            self.assertEqual((LINE, cut_ahead), (line, cut))

    def test_both_cuts_have_lists_of_their_own(self):
        here, back, forth, ahead = leaf_forth(COLUMNS, UP, LINE, ("ahead", ([5], 2)), 1)
        back[1][0].clear()
        self.assertEqual(("behind", ([5], 2)), forth)


if __name__ == "__main__":
    unittest.main()
