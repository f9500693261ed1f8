"""The book: rows of values in columns, changed deed by deed, and what they were at earlier moments."""

from turnleaf.columns import ask_columns, is_row
from turnleaf.errors import Absent, Gone, Later, NoRow, Twice


def told_rows(rows):
    return [(row, list(rows[row])) for row in sorted(rows)]


def told_values(values):
    return None if values is None else list(values)


def put_back(rows, row, was):
    if was is None:
        rows.pop(row)
    else:
        rows[row] = was


class Book:
    def __init__(self, columns):
        ask_columns(columns)
        self.heads = list(columns)
        # Values are kept as tuples, so that no list handed in or told is the book's own.
        self.rows = {}
        self.touched = {}
        # Only the deeds behind the oldest moment known: what was is told by undoing them.
        self.done = []
        self.known = 0
        self.now = 0

    def columns(self):
        return list(self.heads)

    def ask_row(self, row, values):
        if not is_row(self.heads, row, values):
            raise NoRow(f"no row of these columns: {row}")

    def ask_there(self, row):
        if row not in self.rows:
            raise Absent(row)

    def do(self, row, values):
        was = self.rows.get(row)
        self.now += 1
        if values is None:
            self.rows.pop(row)
            self.touched.pop(row)
        else:
            self.rows[row] = values
            self.touched[row] = self.now
        self.done.append((self.now, row, was, values))
        return self.now

    def put(self, row, values):
        self.ask_row(row, values)
        if row in self.rows:
            raise Twice(row)
        return self.do(row, tuple(values))

    def change(self, row, values):
        self.ask_row(row, values)
        self.ask_there(row)
        return self.do(row, tuple(values))

    def take(self, row):
        self.ask_there(row)
        return self.do(row, None)

    def moment(self):
        return self.now

    def has(self, row):
        return row in self.rows

    def values_of(self, row):
        self.ask_there(row)
        return list(self.rows[row])

    def since(self, row):
        self.ask_there(row)
        return self.touched[row]

    def now_rows(self):
        return told_rows(self.rows)

    def oldest(self):
        return self.known

    def let_go(self, moment):
        if moment > self.known:
            self.done = self.done_behind(moment)
            self.known = moment

    def done_behind(self, moment):
        if moment < self.known:
            raise Gone(self.known)
        if moment > self.now:
            raise Later(self.now)
        # Each deed makes one moment, so how many moments lie between is how many deeds to pass over.
        return self.done[moment - self.known:]

    def rows_at(self, moment):
        rows = dict(self.rows)
        for deed in reversed(self.done_behind(moment)):
            put_back(rows, deed[1], deed[2])
        return told_rows(rows)

    def deeds(self, moment):
        behind = self.done_behind(moment)
        return [(made, row, told_values(was), told_values(now)) for made, row, was, now in behind]
