"""Lines: rows that a sieve lets through, in an order, and the places of cuts in them."""

from turnleaf.columns import place_of
from turnleaf.orders import key_ahead, key_of

START = "start"
END = "end"
AHEAD = "ahead"
BEHIND = "behind"


def number_of(told):
    return told[0]


def rank_of(value):
    # Python does not hold None against a value, but the tuple of none is before each tuple of one.
    return () if value is None else (value,)


def sorted_by(rows, place, up):
    def rank(told):
        return rank_of(told[1][place])

    if up:
        return sorted(rows, key=rank)
    return sorted(rows, key=rank, reverse=True)


def let_through(sieve, rows):
    return [(row, values) for row, values in rows if sieve.lets(values)]


def line_of(columns, order, rows):
    line = sorted([(row, list(values)) for row, values in rows], key=number_of)
    # Sorting leaves those that are alike as they stood, reversed too: so what counts most is sorted by last.
    for name, up in reversed(order):
        line = sorted_by(line, place_of(columns, name), up)
    return line


def lies_ahead(order, key, cut):
    if cut[0] == AHEAD:
        return key_ahead(order, key, cut[1])
    return not key_ahead(order, cut[1], key)


def cut_place(columns, order, line, cut):
    if cut[0] == START:
        return 0
    if cut[0] == END:
        return len(line)
    # The rows ahead of the cut are the line's first ones, so where they end is found by halving.
    low = 0
    high = len(line)
    while low < high:
        middle = (low + high) // 2
        row, values = line[middle]
        if lies_ahead(order, key_of(columns, order, row, values), cut):
            low = middle + 1
        else:
            high = middle
    return low
