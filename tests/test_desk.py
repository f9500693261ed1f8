"""Promise 31: the desk, each of its rows, and what is refused; and promise 2."""

import random
import unittest

from helper import COLUMNS, MAKES, ORDERS, SIEVES, values_by_chance
from turnleaf.book import Book
from turnleaf.errors import (
    Absent, Gone, LeafError, Later, NoBook, NoColumns, NoLine, NoMark, NoOrder, NoRow, NoSieve, NoSize, Twice,
)
from turnleaf.desk import Desk
from turnleaf.judges import stood
from turnleaf.pages import page_of, read_page
from turnleaf.places import leaf_by_place
from turnleaf.turning import first_leaf, last_leaf, turn_back, turn_forth
from turnleaf.values import value_word

PUTS = ((1, [10, "a"]), (2, [20, "b"]), (3, [30, None]), (4, [None, ""]), (5, [20, "e"]))


def told(*rows):
    desk = Desk()
    for row in rows:
        desk.say(row)
    return desk


def made():
    """Moments 1 to 5; by +age the line is 4, 1, 2, 5, 3."""
    return told("book age:number name:text", "put 1 10 'a", "put 2 20 'b", "put 3 30 ?", "put 4 ? '", "put 5 20 'e")


def book_made():
    book = Book(COLUMNS)
    for row, values in PUTS:
        book.put(row, values)
    return book


def page(leaf):
    return "\n".join(page_of(leaf))


def answer(desk, row):
    try:
        return desk.say(row)
    except LeafError as error:
        return error.__class__.__name__, vars(error)


def all_said(desk):
    """What a desk answers of its book as a whole, or that it has none."""
    rows = ["first living 100 : all"] + [f"stood {moment} : all" for moment in range(8)]
    return [answer(desk, row) for row in rows]


class Refusing(unittest.TestCase):
    def refused(self, desk, refusal, row, field=None, wanted=None):
        ahead = all_said(desk)
        with self.subTest(row=row):
            with self.assertRaises(refusal) as caught:
                desk.say(row)
            self.assertIs(refusal, caught.exception.__class__)
            if field is not None:
                self.assertEqual(wanted, getattr(caught.exception, field))
            self.assertEqual(ahead, all_said(desk))

    def no_line(self, *rows):
        """With and without a book alike."""
        for row in rows:
            self.refused(made(), NoLine, row)
            self.refused(Desk(), NoLine, row)

    def no_book(self, *rows):
        for row in rows:
            self.refused(Desk(), NoBook, row)


class Books(Refusing):
    def test_a_new_book(self):
        for row, rest in (("book age:number", ["put 1 5", "put 2 ?"]), ("book name:text", ["put 0 'a", "change 0 '"]),
                          ("book " + " ".join(f"{name}:text" for name in "abcdef"), ["put 1 ? ? ? ? ? 'f"])):
            desk = Desk()
            self.assertEqual("ok", desk.say(row))
            self.assertEqual([str(at + 1) for at in range(len(rest))], [desk.say(text) for text in rest])

    def test_a_second_one_in_the_place_of_the_first(self):
        desk = made()
        self.assertEqual("ok", desk.say("book size:number"))
        self.assertEqual("0+0 of 0 at 0", desk.say("first living 5 +size : all"))
        self.refused(desk, NoOrder, "first living 5 +age : all")
        self.assertEqual("1", desk.say("put 1 7"))
        self.assertEqual("ok", desk.say("book size:number"))
        self.assertEqual("0+0 of 0 at 0", desk.say("first living 5 +size : all"))

    def test_no_line(self):
        self.no_line("book", "book ", "book age", "book age:number name", "book agenumber", "book age:number:text",
                     "book age::number", "book ::", "book age:number  name:text", "book age:number ",
                     " book age:number", "Book age:number", "books age:number", "book  age:number", "book age number",
                     "bookage:number")

    def test_no_columns(self):
        for row in ("book :", "book age:", "book :number", "book age:figure", "book Age:number",
                    "book age:number age:text", "book abcdefghi:text",
                    "book a:text b:text c:text d:text e:text f:text g:text", "book age:Number"):
            self.refused(made(), NoColumns, row)
            self.refused(Desk(), NoColumns, row)

    def test_no_line_ahead_of_no_columns(self):
        self.no_line("book Age:number name", "book : ::", "book a:text a:text a", "book :number age")

    def test_desks_of_their_own(self):
        one, other = made(), Desk()
        self.assertEqual("6", one.say("take 1"))
        self.refused(other, NoBook, "take 1")


class Deeds(Refusing):
    def test_each_is_answered_by_the_moment(self):
        desk = told("book age:number name:text")
        answers = [desk.say(row) for row in (
            "put 7 30 'ada", "put 3 ? ?", "change 7 -1 '", "take 3", "put 1000000000 0 'x",
            "put 0 1000000000000000000 '" + "a" * 20, "change 0 ? ?", "put 3 1 'a-9")]
        self.assertEqual([str(moment) for moment in range(1, 9)], answers)
        self.assertEqual("0+4 of 4 at 8\n0 ? ?\n3 1 'a-9\n7 -1 '\n1000000000 0 'x", desk.say("first living 9 : all"))

    def test_no_line_with_a_book_and_without(self):
        for verb in ("put", "change"):
            self.no_line(verb, f"{verb} ", f"{verb} 7", f"{verb} x 10 'a", f"{verb} 07 10 'a", f"{verb} 00 10 'a",
                         f"{verb} -7 10 'a", f"{verb} 10000000000 10 'a", f"{verb}  7 10 'a", f"{verb} '7 10 'a",
                         f"{verb} 7. 10 'a", f"{verb} +7 10 'a", f"{verb} ? 10 'a", verb.upper() + " 7 10 'a",
                         f"{verb}s 7 10 'a", f" {verb} 7 10 'a", f"{verb} \u0667 10 'a")
        self.no_line("take", "take ", "take x", "take 01", "take -1", "take 1 2", "take 1 ", "take  1",
                     "take 10000000000", "take ?", "take '1", "Take 1", "takes 1", "take1")

    def test_words_are_held_against_the_columns_of_a_book(self):
        rows = ("7 10", "7 10 'a 5", "7 10 'a ", "7 10  'a", "7 'a 10", "7 10 a", "7 10 'A", "7 010 'a", "7 -0 'a",
                "7 1000000000000000001 'a", "7 10 '" + "a" * 21, "7 10 10", "7 x y z", "7 10 'a *", "7 : :", "7 10 ")
        for verb in ("put", "change"):
            for row in rows:
                self.refused(made(), NoLine, f"{verb} {row}")
                self.no_book(f"{verb} {row}")

    def test_no_book(self):
        self.no_book("put 7 10 'a", "change 7 10 'a", "take 7", "put 9999999999 x", "change 0 x", "take 9999999999")

    def test_no_line_ahead_of_the_books_own_refusals(self):
        for row in ("put 1 10", "put 1 x 'a", "put 9999999999 10", "change 9 10", "change 9 10 a",
                    "change 9999999999 x y"):
            self.refused(made(), NoLine, row)

    def test_the_books_own_refusals(self):
        desk = made()
        for row in ("1000000001", "9999999999"):
            self.refused(desk, NoRow, f"put {row} 10 'a")
            self.refused(desk, NoRow, f"change {row} 10 'a")
            self.refused(desk, Absent, f"take {row}", "row", int(row))
        self.refused(desk, Twice, "put 1 10 'a", "row", 1)
        self.refused(desk, Absent, "change 0 10 'a", "row", 0)
        self.refused(desk, Absent, "take 0", "row", 0)
        self.refused(desk, Absent, "take 1000000000", "row", 10 ** 9)


class Lists(Refusing):
    def test_first_and_last(self):
        desk, book = made(), book_made()
        for make in MAKES:
            for order in ("", "+age", "-age +name"):
                for sieve in ("all", "both over age 5 not none name", "is name '"):
                    for size in (1, 2, 100):
                        words = f"{make} {size} {order} : {sieve}" if order else f"{make} {size} : {sieve}"
                        self.assertEqual(page(first_leaf(book, make, order, sieve, size)), desk.say(f"first {words}"))
                        self.assertEqual(page(last_leaf(book, make, order, sieve, size)), desk.say(f"last {words}"))

    def test_written_out(self):
        texts = made().say("first living 2 +age : all").split("\n")
        self.assertEqual(["0+2 of 5 at 5", "4 ? '", "1 10 'a"], texts[:3])
        self.assertEqual(["forth l/5/+age/all/>1 10"], [texts[3].rpartition(".")[0]])
        texts = made().say("last still 1 : all").split("\n")
        self.assertEqual(["4+1 of 5 at 5", "5 20 'e", "back s/5//all/<5"], texts[:2] + [texts[2].rpartition(".")[0]])

    def test_forth_and_back(self):
        desk, book = made(), book_made()
        for make in MAKES:
            for mark in (first_leaf(book, make, "+age -name", "either all none age", 3)[2],
                         last_leaf(book, make, "+age -name", "all", 2)[1]):
                for size in (1, 2, 100):
                    self.assertEqual(page(turn_forth(book, mark, size)), desk.say(f"forth {size} {mark}"))
                    self.assertEqual(page(turn_back(book, mark, size)), desk.say(f"back {size} {mark}"))

    def test_touched_rows(self):
        desk = made()
        mark = desk.say("first living 2 +age : all").split("forth ")[1]
        desk.say("change 2 20 'b")
        self.assertEqual(["2+2 of 5 at 6", "2 20 'b *", "5 20 'e"], desk.say(f"forth 2 {mark}").split("\n")[:3])
        self.assertEqual("2+3 of 5 at 6", desk.say(f"forth 100 {mark}").split("\n")[0])

    def test_place(self):
        desk, book = made(), book_made()
        for size, number in ((2, 0), (2, 1), (2, 2), (2, 3), (100, 0), (1, 4), (2, 9999999999), (100, 9999999999)):
            wanted = page(leaf_by_place(book, "+age", "all", size, number))
            self.assertEqual(wanted, desk.say(f"place {size} {number} +age : all"))
            wanted = page(leaf_by_place(book, "", "not none age", size, number))
            self.assertEqual(wanted, desk.say(f"place {size} {number} : not none age"))
        self.assertEqual("2+2 of 5 at 5\n2 20 'b\n5 20 'e", desk.say("place 2 1 +age : all"))
        self.assertEqual("5+0 of 5 at 5", desk.say("place 2 7 +age : all"))

    def test_no_line_of_first_and_last(self):
        for verb in ("first", "last"):
            self.no_line(*[f"{verb}{rest}" for rest in (
                "", " ", " living", " living 2", " living 2 +age", " living 2 +age all", " living 2 :",
                " living 2 +age :", " 2 living : all", " dying 2 : all", " Living 2 : all", " livin 2 : all",
                " living : all",
                " living x : all", " living 02 : all", " living -2 : all", " living 10000000000 : all",
                " living 2 +age :all", " living 2 +age: all", " living  2 : all", " living ? : all", " l 2 : all",
                " living 2 +age ; all", "s living 2 : all", " : all", " living 2 ::  all")])

    def test_no_line_of_forth_and_back(self):
        for verb in ("forth", "back"):
            self.no_line(*[f"{verb}{rest}" for rest in (
                "", " ", " 2", " x m", " 02 m", " 10000000000 m", " -2 m", "  2 m", " m 2", " ? m", "s 2 m", " 2.")])

    def test_no_line_of_place(self):
        self.no_line("place", "place ", "place 2", "place 2 0", "place 2 0 :", "place 2 0 +age", "place 2 : all",
                     "place x 0 : all", "place 2 x : all", "place 02 0 : all", "place 2 00 : all", "place 2 -1 : all",
                     "place 10000000000 0 : all", "place 2 10000000000 : all", "place 2 0 +age :", "place : all",
                     "place 2  0 : all", "places 2 0 : all", "place living 2 0 : all")

    def test_no_book(self):
        self.no_book("first living 2 : all", "last still 0 whatever : whatever", "first living 9999999999 : : :",
                     "forth 2 m", "back 0 ", "forth 9999999999 a b  c", "place 2 0 : all", "place 0 9999999999 x : y",
                     "first still 0 +a +a +a +a +a : none none")

    def test_the_first_parting_word(self):
        desk = made()
        self.refused(desk, NoSieve, "first living 2 : :", "at", 0)
        self.refused(desk, NoSieve, "first living 2 +age : all :", "at", 1)
        self.refused(desk, NoSieve, "first living 2 +age : is name :", "at", 2)
        self.refused(desk, NoSieve, "last still 2 +age : : all", "at", 0)
        self.refused(desk, NoSieve, "place 2 0 : : all", "at", 0)
        self.refused(desk, NoSieve, "stood 5 : : all", "at", 0)
        self.refused(desk, NoOrder, "first living 2 +age: : all")

    def test_the_functions_own_refusals(self):
        for begin in ("first living", "first still", "last living", "last still"):
            self.refused(made(), NoOrder, f"{begin} 0 age : every")
            self.refused(made(), NoOrder, f"{begin} 2 +age +age : all")
            self.refused(made(), NoOrder, f"{begin} 2 +age  +name : all")
            self.refused(made(), NoOrder, f"{begin} 2 +a +b +c +d +e : all")
            self.refused(made(), NoSieve, f"{begin} 0 +age : both all", "at", 2)
            self.refused(made(), NoSieve, f"{begin} 2 +age : all  all", "at", 1)
            self.refused(made(), NoSieve, f"{begin} 2 : is name a", "at", 2)
            for size in (0, 101, 9999999999):
                self.refused(made(), NoSize, f"{begin} {size} +age : all")
        self.refused(made(), NoOrder, "place 0 0 age : every")
        self.refused(made(), NoSieve, "place 0 0 +age : every", "at", 0)
        for size in (0, 101, 9999999999):
            self.refused(made(), NoSize, f"place {size} 0 +age : all")

    def test_the_refusals_of_turning(self):
        book = book_made()
        book.put(9, [1, "z"])
        later = first_leaf(book, "living", "+age", "all", 2)[2]
        for verb in ("forth", "back"):
            desk = made()
            mark = desk.say("first still 2 +age : all").split("forth ")[1]
            for text in ("", " ", "m", mark + " ", " " + mark, mark.replace(" ", "  "), mark[:-1], mark + "0",
                         mark + " x"):
                self.refused(desk, NoMark, f"{verb} 2 {text}")
                self.refused(desk, NoMark, f"{verb} 0 {text}")
            self.refused(desk, Later, f"{verb} 0 {later}", "now", 5)
            for size in (0, 101, 9999999999):
                self.refused(desk, NoSize, f"{verb} {size} {mark}")
            desk.say("take 1")
            desk.say("let 6")
            self.refused(desk, Gone, f"{verb} 0 {mark}", "known", 6)


class MomentsAndStood(Refusing):
    def test_let(self):
        desk = made()
        for moment in (0, 3, 2, 5, 0, 5):
            self.assertEqual("ok", desk.say(f"let {moment}"))
        self.refused(desk, Gone, "stood 4 : all", "known", 5)
        self.assertEqual("1 2 3 4 5", desk.say("stood 5 : all"))

    def test_let_refused(self):
        self.no_line("let", "let ", "let x", "let 01", "let -1", "let 1 2", "let 1 ", "let 10000000000", "lets 1",
                     "let  1", "let ?")
        self.no_book("let 0", "let 5", "let 9999999999")
        for moment in (6, 9999999999):
            desk = made()
            self.refused(desk, Later, f"let {moment}", "now", 5)
            self.assertEqual("", desk.say("stood 0 : all"))

    def test_stood(self):
        desk = made()
        desk.say("change 2 25 'b")
        desk.say("change 1 10 'c")
        for row, wanted in (("stood 0 +age : all", ""), ("stood 1 +age : all", "1"), ("stood 5 +age : all", "1 3 4 5"),
                            ("stood 5 : all", "1 2 3 4 5"), ("stood 5 +name -age : all", "3 4 5"),
                            ("stood 7 +name : not none age", "1 2 3 5"), ("stood 7 : not all", "")):
            self.assertEqual(wanted, desk.say(row))

    def test_stood_refused(self):
        self.no_line("stood", "stood ", "stood 5", "stood 5 :", "stood 5 +age", "stood 5 +age :", "stood : all",
                     "stood x : all", "stood 05 : all", "stood -1 : all", "stood 10000000000 : all", "stood  5 : all",
                     "stand 5 : all", "stood 5 +age :all")
        self.no_book("stood 5 : all", "stood 9999999999 x : y")
        desk = made()
        desk.say("let 3")
        self.refused(desk, NoOrder, "stood 2 age : every")
        self.refused(desk, NoSieve, "stood 6 +age : every", "at", 0)
        self.refused(desk, Gone, "stood 2 +age : all", "known", 3)
        self.refused(desk, Later, "stood 6 +age : all", "now", 5)
        self.refused(desk, Later, "stood 9999999999 +age : all", "now", 5)


class OtherRows(Refusing):
    def test_rows_that_are_none(self):
        self.no_line("", " ", "  ", ":", "x", "living", "age:number", "turn 2 m", "told", "LET 1", "ok")


class WordsWithoutSigns(Refusing):
    """Two blanks have a word without signs between them, which is a word like others where any words go."""

    def test_in_the_place_of_a_mark(self):
        self.refused(made(), NoMark, "forth 2 ")
        self.no_book("forth 2 ", "back 2 ")

    def test_in_the_place_of_a_sieve(self):
        self.refused(made(), NoSieve, "first living 2 : ", "at", 0)
        self.no_book("first living 2 : ")

    def test_in_the_place_of_a_value(self):
        self.refused(made(), NoLine, "put 7 ")
        self.no_book("put 7 ", "change 7 ")


class ByTheFunctions(unittest.TestCase):
    """Rows by chance, beside a book and the functions themselves."""

    def one_deed(self, chance, desk, book):
        row, values = chance.randrange(15), values_by_chance(chance)
        words = " ".join([str(row)] + [value_word(value) for value in values])
        if not book.has(row):
            self.assertEqual(str(book.put(row, values)), desk.say(f"put {words}"))
        elif chance.randrange(2):
            self.assertEqual(str(book.change(row, values)), desk.say(f"change {words}"))
        else:
            self.assertEqual(str(book.take(row)), desk.say(f"take {row}"))

    def test_many(self):
        chance = random.Random(61)
        for turn in range(30):
            book, desk, make = Book(COLUMNS), told("book age:number name:text"), chance.choice(MAKES)
            order, sieve = chance.choice(ORDERS[1:]), chance.choice(SIEVES)
            for deed in range(20):
                self.one_deed(chance, desk, book)
            leaf = read_page(COLUMNS, desk.say(f"first {make} 3 {order} : {sieve}").split("\n"))
            self.assertEqual(first_leaf(book, make, order, sieve, 3), leaf)
            begin = book.moment()
            while leaf[2] is not None:
                if book.moment() < 60:
                    self.one_deed(chance, desk, book)
                wanted = turn_forth(book, leaf[2], 3)
                leaf = read_page(COLUMNS, desk.say(f"forth 3 {leaf[2]}").split("\n"))
                self.assertEqual(wanted, leaf)
            rows = " ".join(str(row) for row in stood(book, order, sieve, begin))
            self.assertEqual(rows, desk.say(f"stood {begin} {order} : {sieve}"))


if __name__ == "__main__":
    unittest.main()
