"""Columns: which lists of them there are, where a name stands, and what is a row of them."""

from turnleaf.errors import NoColumns
from turnleaf.values import LETTERS, NUMBER, TEXT, is_value, is_whole, made_of, value_word

MOST_COLUMNS = 6
LONGEST_NAME = 8
LARGEST_ROW = 1_000_000_000


def is_name(name):
    return 1 <= len(name) <= LONGEST_NAME and made_of(name, LETTERS)


def ask_columns(columns):
    if not 1 <= len(columns) <= MOST_COLUMNS:
        raise NoColumns("there are one to six columns")
    for name, kind in columns:
        if not is_name(name):
            raise NoColumns(f"no column's name: {name}")
        if kind not in (NUMBER, TEXT):
            raise NoColumns(f"no column's kind: {kind}")
    names = [name for name, kind in columns]
    if len(set(names)) != len(names):
        raise NoColumns("two columns have one name")


def place_of(columns, name):
    for place, column in enumerate(columns):
        if column[0] == name:
            return place
    return None


def kinds_of(columns):
    return [kind for name, kind in columns]


def row_words(row, values):
    return [str(row)] + [value_word(value) for value in values]


def is_row_number(row):
    return is_whole(row) and 0 <= row <= LARGEST_ROW


def is_row(columns, row, values):
    if not is_row_number(row) or len(values) != len(columns):
        return False
    return all([is_value(column[1], value) for column, value in zip(columns, values)])
