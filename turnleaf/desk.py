"""The desk: a book that is told rows of words and answers with texts."""

from turnleaf.book import Book
from turnleaf.columns import kinds_of
from turnleaf.errors import NoBook, NoLine, NoValue
from turnleaf.judges import stood
from turnleaf.marks import LIVING, STILL
from turnleaf.pages import page_of
from turnleaf.places import leaf_by_place
from turnleaf.turning import first_leaf, last_leaf, turn_back, turn_forth
from turnleaf.values import TEN_FIGURES, read_figures, read_values

OK = "ok"
PARTING = ":"
BOOK = "book"
PUT = "put"
CHANGE = "change"
TAKE = "take"
FIRST = "first"
LAST = "last"
FORTH = "forth"
BACK = "back"
PLACE = "place"
LET = "let"
STOOD = "stood"


def ask_words(words, least):
    if len(words) < least:
        raise NoLine("too few words")


def read_number(word):
    number = read_figures(word, TEN_FIGURES)
    if number is None:
        raise NoLine(f"no number of one to ten figures: {word}")
    return number


def read_only_number(words):
    if len(words) != 1:
        raise NoLine("one number and nothing else is told here")
    return read_number(words[0])


def read_column(word):
    parts = word.split(PARTING)
    if len(parts) != 2:
        raise NoLine(f"no column's word: {word}")
    return (parts[0], parts[1])


def read_row_values(columns, words):
    try:
        return read_values(kinds_of(columns), words)
    except NoValue:
        raise NoLine("a row has a word of its kind for each column") from None


def read_list(words):
    """The texts of an order and of a sieve, with the first parting word between them."""
    if PARTING not in words:
        raise NoLine("nothing parts the order from the sieve")
    place = words.index(PARTING)
    ask_words(words, place + 2)
    return (" ".join(words[:place]), " ".join(words[place + 1:]))


def page_text(leaf):
    return "\n".join(page_of(leaf))


class Desk:
    def __init__(self):
        self.book = None

    def say(self, row):
        verb = row.split(" ")[0]
        words = row.split(" ")[1:]
        if verb == BOOK:
            return self.new_book(words)
        if verb in (PUT, CHANGE):
            return self.put_or_change(verb, words)
        if verb == TAKE:
            return self.take_out(words)
        if verb in (FIRST, LAST):
            return self.begin_list(verb, words)
        if verb in (FORTH, BACK):
            return self.turn_list(verb, words)
        if verb == PLACE:
            return self.show_place(words)
        if verb == LET:
            return self.let_moments_go(words)
        if verb == STOOD:
            return self.show_stood(words)
        raise NoLine(f"no row begins so: {verb}")

    # Each of these reads all its words ahead of asking for the book: a row that is none is refused as such first.

    def standing(self):
        if self.book is None:
            raise NoBook("no book stands")
        return self.book

    def new_book(self, words):
        ask_words(words, 1)
        self.book = Book([read_column(word) for word in words])
        return OK

    def put_or_change(self, verb, words):
        ask_words(words, 2)
        row = read_number(words[0])
        book = self.standing()
        values = read_row_values(book.columns(), words[1:])
        if verb == PUT:
            return str(book.put(row, values))
        return str(book.change(row, values))

    def take_out(self, words):
        row = read_only_number(words)
        return str(self.standing().take(row))

    def begin_list(self, verb, words):
        ask_words(words, 2)
        make = words[0]
        if make not in (LIVING, STILL):
            raise NoLine(f"no make: {make}")
        size = read_number(words[1])
        order, sieve = read_list(words[2:])
        if verb == FIRST:
            return page_text(first_leaf(self.standing(), make, order, sieve, size))
        return page_text(last_leaf(self.standing(), make, order, sieve, size))

    def turn_list(self, verb, words):
        ask_words(words, 2)
        size = read_number(words[0])
        # A mark has blanks of its own, so all that follows is put together again.
        mark = " ".join(words[1:])
        if verb == FORTH:
            return page_text(turn_forth(self.standing(), mark, size))
        return page_text(turn_back(self.standing(), mark, size))

    def show_place(self, words):
        ask_words(words, 2)
        size = read_number(words[0])
        number = read_number(words[1])
        order, sieve = read_list(words[2:])
        return page_text(leaf_by_place(self.standing(), order, sieve, size, number))

    def let_moments_go(self, words):
        moment = read_only_number(words)
        self.standing().let_go(moment)
        return OK

    def show_stood(self, words):
        ask_words(words, 1)
        moment = read_number(words[0])
        order, sieve = read_list(words[1:])
        return " ".join([str(row) for row in stood(self.standing(), order, sieve, moment)])
