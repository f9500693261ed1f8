"""Promises 21 and 22, and 6 in its last sentence: marks, their texts, and texts that are none; of 2 what stays."""

import unittest

from turnleaf.errors import LeafError, NoMark
from turnleaf.marks import mark_text, read_mark

COLUMNS = [("age", "number"), ("name", "text"), ("size", "number"), ("town", "text")]
UP_DOWN = [("age", True), ("name", False)]
FOUR = [("town", False), ("size", True), ("name", True), ("age", False)]
SIEVE = "both not is age 5 either holds name 'a all"
MARKS = [
    (("living", 0, [], "all", ("ahead", ([], 0))), "l/0//all/<0"),
    (("still", 0, [], "all", ("behind", ([], 0))), "s/0//all/>0"),
    (("still", 5000, [], "none age", ("ahead", ([], 10 ** 9))), "s/5000//none age/<1000000000"),
    (("living", 7, [("age", True)], "all", ("behind", ([None], 12))), "l/7/+age/all/>12 ?"),
    (("living", 10, [("age", False)], "is name '", ("behind", ([-10 ** 18], 3))),
     "l/10/-age/is name '/>3 -1000000000000000000"),
    (("still", 4999, [("name", True)], "not all", ("ahead", ([""], 3))), "s/4999/+name/not all/<3 '"),
    (("still", 5000, UP_DOWN, SIEVE, ("behind", ([None, "z-9"], 10 ** 9))),
     f"s/5000/+age -name/{SIEVE}/>1000000000 ? 'z-9"),
    (("living", 1, [("size", True), ("town", True), ("age", True)], "under size -3", ("ahead", ([0, None, -7], 1))),
     "l/1/+size +town +age/under size -3/<1 0 ? -7"),
    (("living", 123, FOUR, "over name 'm", ("ahead", (["a" * 20, 10 ** 18, "-", None], 77))),
     f"l/123/-town +size +name -age/over name 'm/<77 '{'a' * 20} 1000000000000000000 '- ?"),
]
SIGNS = [chr(code) for code in range(32, 127) if code != 37]


def checked(body):
    """The body with a full stop and its right check behind it."""
    return f"{body}.{sum(ord(sign) * 137 ** place for place, sign in enumerate(body)) % 9973:04}"


class Written(unittest.TestCase):
    def test_each(self):
        for mark, body in MARKS:
            with self.subTest(body=body):
                self.assertEqual(checked(body), mark_text(mark))

    def test_to_the_letter(self):
        self.assertEqual("l/0//all/<0.4790", mark_text(MARKS[0][0]))
        self.assertEqual(f"s/5000/+age -name/{SIEVE}/>1000000000 ? 'z-9.0376", mark_text(MARKS[6][0]))

    def test_each_is_read_back(self):
        for mark, body in MARKS:
            with self.subTest(body=body):
                back = read_mark(COLUMNS, checked(body))
                self.assertEqual(mark, back)
                make, moment, order, sieve, cut = back
                self.assertEqual((tuple, str, int, list, str, tuple), tuple(
                    part.__class__ for part in (back, make, moment, order, sieve, cut)))
                self.assertEqual((tuple, list, int), (cut[1].__class__, cut[1][0].__class__, cut[1][1].__class__))
                for part in order:
                    self.assertEqual((tuple, bool), (part.__class__, part[1].__class__))

    def test_checks_of_all_lengths_are_written_in_four_figures(self):
        lengths = {}
        for row in range(3000):
            text = mark_text(("living", 0, [], "all", ("ahead", ([], row))))
            body, stop, check = text.rpartition(".")
            lengths[len(check.lstrip("0"))] = True
            self.assertEqual(4, len(check))
            self.assertEqual((([], row)), read_mark(COLUMNS, text)[4][1])
        self.assertLessEqual({2, 3, 4}, set(lengths))


class NothingHangsTogether(unittest.TestCase):
    def test_what_is_handed_in_stays(self):
        order, values, columns = list(UP_DOWN), [None, "z"], list(COLUMNS)
        mark = ("living", 3, order, SIEVE, ("ahead", (values, 4)))
        text = mark_text(mark)
        self.assertEqual(("living", 3, UP_DOWN, SIEVE, ("ahead", ([None, "z"], 4))), mark)
        back = read_mark(columns, text)
        self.assertEqual(COLUMNS, columns)
        order.clear()
        values.clear()
        columns.clear()
        self.assertEqual(("living", 3, UP_DOWN, SIEVE, ("ahead", ([None, "z"], 4))), back)

    def test_a_mark_that_was_read_is_the_askers_own(self):
        for mark, body in MARKS:
            back = read_mark(COLUMNS, checked(body))
            back[2].append(("size", True))
            back[4][1][0].append(5)
            self.assertEqual(mark, read_mark(COLUMNS, checked(body)))


class Refused(unittest.TestCase):
    def refused(self, text, columns=COLUMNS):
        ahead = list(columns)
        try:
            told = read_mark(columns, text)
        except LeafError as error:
            if error.__class__ is not NoMark:
                self.fail(f"{text!r} is refused with {error!r}")
        else:
            self.fail(f"{text!r} is read as {told}")
        self.assertEqual(ahead, columns)

    def refused_bodies(self, *bodies):
        for body in bodies:
            with self.subTest(body=body[:80]):
                self.refused(checked(body))


class OneSignChanged(Refused):
    def test_each_sign_to_each_other(self):
        for mark, body in MARKS:
            text = checked(body)
            for place, sign in enumerate(text):
                for other in SIGNS:
                    if other != sign:
                        self.refused(text[:place] + other + text[place + 1:])

    def test_neighbours_change_places(self):
        for mark, body in MARKS:
            text = checked(body)
            for place in range(len(text) - 1):
                one, other = text[place], text[place + 1]
                if one != other:
                    self.refused(text[:place] + other + one + text[place + 2:])

    def test_a_sign_less_or_more(self):
        for mark, body in MARKS:
            text = checked(body)
            self.refused(text[:-1])
            self.refused(text + "0")
            self.refused(text + " ")
            self.refused(" " + text)
            self.refused("0" + text)
            self.refused(text[1:])


class NoChecks(Refused):
    def test_no_full_stop(self):
        for text in ("", " ", "l/0//all/<0", "l/0//all/<04790", "l", "0000", "l/0//all/<0,4790"):
            with self.subTest(text=text):
                self.refused(text)

    def test_another_check(self):
        for text in ("l/0//all/<0.", "l/0//all/<0.479", "l/0//all/<0.04790", "l/0//all/<0.4791", "l/0//all/<0. 4790",
                     "l/0//all/<0.4790 ", "l/0//all/<0.+4790", "l/0//all/<0..4790", "l/0//all/<0.4790.4790",
                     ".", ".0000", "." * 4000):
            with self.subTest(text=text[:40]):
                self.refused(text)

    def test_a_check_without_its_noughts(self):
        for row in range(1000):
            text = mark_text(("living", 0, [], "all", ("ahead", ([], row))))
            body, stop, check = text.rpartition(".")
            if check[0] == "0":
                self.refused(f"{body}.{int(check)}")

    def test_checks_beyond_the_rest(self):
        # 9973 more is alike by the rest, but is not the text of the check.
        for row in range(1000):
            body = f"l/0//all/<{row}"
            check = int(checked(body).rpartition(".")[2])
            if check + 9973 <= 9999:
                self.refused(f"{body}.{check + 9973}")

    def test_full_stops_in_the_body(self):
        self.refused_bodies("l/0//all/<0.", "l/0//all/.<0", ".l/0//all/<0", "l/0//all/<0.4790", "l/0//all./<0",
                            "l/0.//all/<0")


class OneFault(Refused):
    """Texts with a right check and one fault."""

    def test_the_texts_without_a_fault_are_read(self):
        for body in ("l/3/+age/all/<7 5", "s/3/+age/all/<7 5"):
            read_mark(COLUMNS, checked(body))

    def test_another_first_letter(self):
        for letter in SIGNS:
            if letter not in "ls":
                self.refused_bodies(f"{letter}/3/+age/all/<7 5")
        self.refused_bodies("/3/+age/all/<7 5", "living/3/+age/all/<7 5", "ls/3/+age/all/<7 5", "still/3/+age/all/<7 5",
                            "ll/3/+age/all/<7 5", " l/3/+age/all/<7 5")

    def test_moments(self):
        for moment in ("5001", "5002", "9999", "50000", "10000", "9" * 60, "9" * 3900, "00", "03", "003", "05000", "",
                       "-1", "-0", "+3", " 3", "3 ", "3.0", "a", "1_0", "'3", "?"):
            self.refused_bodies(f"l/{moment}/+age/all/<7 5", f"s/{moment}/+age/all/<7 5")

    def test_orders(self):
        for order in ("age", "*age", "+q", "+age +age", "+age -age", " +age", "+age ", "+", "-", " "):
            self.refused_bodies(f"l/3/{order}/all/<7 5", f"l/3/{order}/all/<7 5 5")
        self.refused_bodies("l/3/+age +name +size +town +age/all/<7 5 'a 5 'a 5", "l/3/+age  +name/all/<7 5 'a")

    def test_five_columns(self):
        columns = COLUMNS + [("a", "text")]
        read_mark(columns, checked("l/3/+age +name +size +a/all/<7 5 'a 5 'a"))
        self.refused(checked("l/3/+age +name +size +town +a/all/<7 5 'a 5 'a 'a"), columns)

    def test_sieves(self):
        for sieve in ("", " ", "x", "all ", " all", "all all", "not", "is age", "is age ?", "is age 'a", "is q 5",
                      "holds age 'a", "not " * 21 + "all", "both all", "both none age " * 20 + "all", "All"):
            self.refused_bodies(f"l/3/+age/{sieve}/<7 5", f"s/3/+age/{sieve}/<7 5")

    def test_another_sign_for_the_cut(self):
        for sign in SIGNS:
            if sign not in "<>":
                self.refused_bodies(f"l/3/+age/all/{sign}7 5")
        self.refused_bodies("l/3/+age/all/7 5", "l/3/+age/all/<<7 5", "l/3/+age/all/<>7 5", "l/3//all/", "l/3//all/<",
                            "l/3//all/>", "l/3/+age/all/", "l/3//all/start", "l/3//all/end")

    def test_numbers_of_rows(self):
        for row in ("1000000001", "1000000002", "2000000000", "9999999999", "10000000000", "9" * 60, "9" * 3900, "07",
                    "00", "000", "0000000001", "+7", "-7", "-0", "", "a", "?", "'7", "7.0", "1_0"):
            self.refused_bodies(f"l/3/+age/all/<{row} 5", f"s/3//all/>{row}")

    def test_words_too_many_or_too_few(self):
        self.refused_bodies(
            "l/3/+age/all/<7", "l/3/+age/all/<7 5 5", "l/3/+age/all/<7 5 ?", "l/3//all/<7 5", "l/3//all/<7 ?",
            "l/3/+age -name/all/<7 5", "l/3/+age -name/all/<7 5 'a 'a", "l/3/+age -name/all/<7",
            "l/3/+age/all/<7 ", "l/3/+age/all/<7 5 ", "l/3/+age/all/<7  5", "l/3/+age/all/< 7 5", "l/3//all/<7 ",
            "l/3/+age +name +size +town/all/<7 5 'a 5", "l/3/+age +name +size +town/all/<7 5 'a 5 'a 5")

    def test_words_that_write_no_value_of_their_column(self):
        for word in ("'5", "'", "a", "05", "-0", "+5", "1000000000000000001", "-1000000000000000001", "??", "5.0", "-"):
            self.refused_bodies(f"l/3/+age/all/<7 {word}", f"l/3/+name -age/all/<7 'a {word}")
        for word in ("5", "0", "-1", "a", "'A", "''", "'" + "a" * 21, "'?", "??", "'a_"):
            self.refused_bodies(f"l/3/+name/all/<7 {word}", f"l/3/+age -name/all/<7 5 {word}")
        self.refused_bodies("l/3/+age -name/all/<7 'a 5", "l/3/+name -age/all/<7 5 'a")

    def test_parts_too_few_or_too_many(self):
        self.refused_bodies(
            "", "l", "l/3", "l/3/+age", "l/3/+age/all", "l/3/+age/<7 5", "l/3/all/<7", "3/+age/all/<7 5",
            "l/+age/all/<7 5", "l/3/+age/all/<7 5/", "/l/3/+age/all/<7 5", "l/3/+age/all//<7 5", "l//3/+age/all/<7 5",
            "l/3/+age/all/<7 5/all", "l/3//+age/all/<7 5", "l/3/+age/+age/all/<7 5", "////", "/////", "l////<7",
            "/" * 3990)

    def test_marks_of_other_columns(self):
        text = checked("l/3/+age -name/is size 3/<7 5 'a")
        read_mark(COLUMNS, text)
        for columns in (COLUMNS[:2], COLUMNS[1:], COLUMNS[2:], [("age", "text")] + COLUMNS[1:],
                        [("age", "number"), ("name", "number"), ("size", "number")],
                        [("age", "number"), ("name", "text"), ("size", "text")]):
            with self.subTest(columns=columns):
                self.refused(text, columns)

    def test_columns_in_another_order_are_good(self):
        text = checked("l/3/+age -name/is size 3/<7 5 'a")
        self.assertEqual(read_mark(COLUMNS, text), read_mark(COLUMNS[::-1], text))

    def test_signs_beyond_the_plain_ones_with_a_right_check(self):
        self.refused_bodies("l/\u0663/+age/all/<7 5", "l/3/+age/all/<\u0667 5", "l/3/+age/all/<7 \u0665",
                            "l/3/+age/all/<7\n5", "l/3/+age/all/<7 5\n")


if __name__ == "__main__":
    unittest.main()
