"""What several tests share: deeds by chance of a set seed, and what is asked of a book or a list as a whole."""

from turnleaf.lines import line_of
from turnleaf.orders import key_of, read_order
from turnleaf.sifting import read_sieve
from turnleaf.turning import first_leaf, last_leaf, turn_back, turn_forth

COLUMNS = [("age", "number"), ("name", "text")]
ORDERS = ("", "+age", "-age", "+name -age", "-name +age")
SIEVES = ("all", "not none age", "either over age 0 holds name 'a", "both not is name 'b over age -2")
MAKES = ("living", "still")
NO_SIZES = (0, -1, -100, -10 ** 59, 101, 102, 1000, 10 ** 59)


def all_told(book):
    """All that a book tells, to be held against what it tells later."""
    moments = range(book.oldest(), book.moment() + 1)
    rows = book.now_rows()
    return (book.columns(), book.moment(), book.oldest(), rows, [book.since(row) for row, values in rows],
            [book.rows_at(moment) for moment in moments], [book.deeds(moment) for moment in moments])


def values_by_chance(chance):
    return [chance.choice([None, -3, -1, 0, 1, 2]), chance.choice([None, "", "a", "ab", "b"])]


def deeds_by_chance(chance, book, rows=20):
    """One deed, or two: put in, changed, changed to the same values, taken out, taken out and put in again."""
    row = chance.randrange(rows)
    values = values_by_chance(chance)
    if not book.has(row):
        book.put(row, values)
        return
    deed = chance.choice(["change", "change", "same", "take", "again", "elsewhere"])
    if deed == "change":
        book.change(row, values)
    elif deed == "same":
        book.change(row, book.values_of(row))
    else:
        was = book.values_of(row)
        book.take(row)
        if deed != "take":
            book.put(row, was if deed == "again" else values)


def put_by_chance(chance, book, many, rows=20):
    for row in chance.sample(range(rows), many):
        book.put(row, values_by_chance(chance))


def line_wanted(rows, order, sieve):
    """The line of some rows, order and sieve texts."""
    through = read_sieve(COLUMNS, sieve)
    return line_of(COLUMNS, read_order(COLUMNS, order), [told for told in rows if through.lets(told[1])])


def keys_by(order, rows):
    """The keys of rows told, tuples (row, values, ..)."""
    return [key_of(COLUMNS, read_order(COLUMNS, order), told[0], told[1]) for told in rows]


def begin_leaf(book, make, order, sieve, size, onward):
    return (first_leaf if onward else last_leaf)(book, make, order, sieve, size)


def next_leaf(book, leaf, size, onward):
    """The leaf behind this one in the direction, or None where it has no mark there."""
    mark = leaf[2] if onward else leaf[1]
    return None if mark is None else (turn_forth if onward else turn_back)(book, mark, size)


def in_direction(rows, onward):
    return list(rows) if onward else rows[::-1]


def stood_in(order, lines):
    """The rows that are in each of the lines, dicts of row and values, with always the same key; rising."""
    rows = [row for row in sorted(lines[0]) if all(row in line for line in lines)]
    keys = {row: keys_by(order, [(row, line[row]) for line in lines]) for row in rows}
    return [row for row in rows if all(key == keys[row][0] for key in keys[row])]
