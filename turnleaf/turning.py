"""Turning: the first and the last leaf of a living or a still list, and those that its marks lead to."""

from turnleaf.errors import Later
from turnleaf.leaves import leaf_back, leaf_forth
from turnleaf.lines import END, START, let_through, line_of
from turnleaf.marks import LIVING, STILL, mark_text, read_mark
from turnleaf.orders import read_order
from turnleaf.sifting import read_sieve


def rows_of_list(book, make, begin, sieve):
    rows = book.now_rows() if make == LIVING else book.rows_at(begin)
    return let_through(sieve, rows)


def is_untouched(book, make, begin, row):
    # A still list tells its begin, where nothing is touched yet; its row may be no more in the book.
    return make == STILL or book.since(row) <= begin


def mark_at(mark, cut):
    """The text of the mark of the same list at another cut, if there is one."""
    return None if cut is None else mark_text(mark[:-1] + (cut,))


def leaf_from(book, mark, size, onward):
    make, begin, order, text, cut = mark
    columns = book.columns()
    line = line_of(columns, order, rows_of_list(book, make, begin, read_sieve(columns, text)))
    if onward:
        here, back, forth, ahead = leaf_forth(columns, order, line, cut, size)
    else:
        here, back, forth, ahead = leaf_back(columns, order, line, cut, size)
    rows = [(row, values, is_untouched(book, make, begin, row)) for row, values in here]
    moment = book.moment() if make == LIVING else begin
    return (rows, mark_at(mark, back), mark_at(mark, forth), len(line), ahead, moment)


def begin_of(book, make, order, sieve, cut):
    return (make, book.moment(), read_order(book.columns(), order), sieve, cut)


def first_leaf(book, make, order, sieve, size):
    return leaf_from(book, begin_of(book, make, order, sieve, (START,)), size, True)


def last_leaf(book, make, order, sieve, size):
    return leaf_from(book, begin_of(book, make, order, sieve, (END,)), size, False)


def read_good_mark(book, text):
    mark = read_mark(book.columns(), text)
    # The rows of a still list's moment are asked of the book, which refuses one let go; a living list asks for now.
    if mark[1] > book.moment():
        raise Later(book.moment())
    return mark


def turn_forth(book, mark, size):
    return leaf_from(book, read_good_mark(book, mark), size, True)


def turn_back(book, mark, size):
    return leaf_from(book, read_good_mark(book, mark), size, False)
