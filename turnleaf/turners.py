"""Turners: a list turned from its begin in one direction, and what it has told so far."""

from turnleaf.leaves import ask_size
from turnleaf.orders import read_order
from turnleaf.sifting import read_sieve
from turnleaf.turning import first_leaf, last_leaf, rows_of_list, turn_back, turn_forth


class Turner:
    def __init__(self, book, make, order, sieve, size, forth):
        columns = book.columns()
        read_order(columns, order)
        self.sieve = read_sieve(columns, sieve)
        ask_size(size)
        self.book = book
        self.make = make
        self.order = order
        self.size = size
        self.forth = forth
        self.turned = 0
        self.begin = None
        self.mark = None
        # Values are kept as tuples, since the lists in a leaf are its asker's own.
        self.seen = []

    def turn(self):
        leaf = self.begin_leaf() if self.turned == 0 else self.next_leaf()
        if leaf is not None:
            self.keep(leaf)
        return leaf

    def begin_leaf(self):
        text = self.sieve.shown()
        if self.forth:
            return first_leaf(self.book, self.make, self.order, text, self.size)
        return last_leaf(self.book, self.make, self.order, text, self.size)

    def next_leaf(self):
        if self.mark is None:
            return None
        if self.forth:
            return turn_forth(self.book, self.mark, self.size)
        return turn_back(self.book, self.mark, self.size)

    def keep(self, leaf):
        rows, back, forth, many, ahead, moment = leaf
        if self.turned == 0:
            self.begin = moment
        self.turned += 1
        self.mark = forth if self.forth else back
        told = [(row, tuple(values), untouched) for row, values, untouched in rows]
        self.seen.extend(told if self.forth else list(reversed(told)))

    def told(self):
        return [(row, list(values), untouched) for row, values, untouched in self.seen]

    def left_out(self):
        if self.turned == 0:
            return []
        known = dict([((row, values), True) for row, values, untouched in self.seen])
        rows = rows_of_list(self.book, self.make, self.begin, self.sieve)
        return [(row, self.since_now(row)) for row, values in rows if (row, tuple(values)) not in known]

    def since_now(self, row):
        return self.book.since(row) if self.book.has(row) else None

    def leaves(self):
        return self.turned
