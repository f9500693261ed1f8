"""Judges: which rows stood in their place from a moment to now, and how often rows were told."""

from turnleaf.lines import let_through
from turnleaf.orders import key_of, read_order
from turnleaf.sifting import read_sieve


def key_through(columns, order, sieve, row, values):
    """The row's key; None where it is not in the book or not let through."""
    if values is None or not sieve.lets(values):
        return None
    return key_of(columns, order, row, values)


def stood(book, order, sieve, moment):
    columns = book.columns()
    ordered = read_order(columns, order)
    through = read_sieve(columns, sieve)
    keys = {}
    for row, values in let_through(through, book.rows_at(moment)):
        keys[row] = key_of(columns, ordered, row, values)
    # Between two deeds nothing changes, so what each deed left tells all moments.
    for made, row, was, now in book.deeds(moment):
        if row in keys and keys[row] != key_through(columns, ordered, through, row, now):
            keys.pop(row)
    return sorted(keys)


def sights(told):
    times = {}
    for sight in told:
        times[sight[0]] = times.get(sight[0], 0) + 1
    return [(row, times[row]) for row in sorted(times)]
