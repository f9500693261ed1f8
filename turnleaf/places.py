"""Lists by places: leaves by their number alone, without marks."""

from turnleaf.leaves import ask_size
from turnleaf.lines import let_through, line_of
from turnleaf.orders import read_order
from turnleaf.sifting import read_sieve


def leaf_by_place(book, order, sieve, size, number):
    columns = book.columns()
    ordered = read_order(columns, order)
    through = read_sieve(columns, sieve)
    ask_size(size)
    line = line_of(columns, ordered, let_through(through, book.now_rows()))
    ahead = min(number * size, len(line))
    rows = [(row, values, True) for row, values in line[ahead:ahead + size]]
    return (rows, None, None, len(line), ahead, book.moment())
