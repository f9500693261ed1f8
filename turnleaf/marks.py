"""Marks: what is handed back to turn a list, as a tuple (make, moment, order, sieve, cut) and as a text."""

from turnleaf.checks import check_word
from turnleaf.columns import LARGEST_ROW, place_of, row_words
from turnleaf.errors import NoMark, NoOrder, NoSieve, NoValue
from turnleaf.lines import AHEAD, BEHIND
from turnleaf.orders import order_text, read_order
from turnleaf.sifting import read_sieve
from turnleaf.values import read_figures, read_values

LIVING = "living"
STILL = "still"
LATEST = 5000
PARTS = 5
PARTING = "/"
STOP = "."
AHEAD_SIGN = "<"
BEHIND_SIGN = ">"


def cut_text(cut):
    values, row = cut[1]
    sign = AHEAD_SIGN if cut[0] == AHEAD else BEHIND_SIGN
    return sign + " ".join(row_words(row, values))


def mark_text(mark):
    make, moment, order, sieve, cut = mark
    body = PARTING.join([make[0], str(moment), order_text(order), sieve, cut_text(cut)])
    return body + STOP + check_word(body)


def read_make(letter):
    for make in (LIVING, STILL):
        if letter == make[0]:
            return make
    raise NoMark(f"no make's letter: {letter}")


def read_whole(word, most):
    number = read_figures(word, most)
    if number is None:
        raise NoMark(f"no number from 0 to {most}: {word}")
    return number


def read_side(sign):
    if sign == AHEAD_SIGN:
        return AHEAD
    if sign == BEHIND_SIGN:
        return BEHIND
    raise NoMark(f"no cut's sign: {sign}")


def read_cut(columns, order, text):
    side = read_side(text[:1])
    words = text[1:].split(" ")
    row = read_whole(words[0], LARGEST_ROW)
    kinds = [columns[place_of(columns, name)][1] for name, up in order]
    return (side, (read_values(kinds, words[1:]), row))


def read_body(columns, body):
    parts = body.split(PARTING)
    if len(parts) != PARTS:
        raise NoMark("a mark has five parts")
    make = read_make(parts[0])
    moment = read_whole(parts[1], LATEST)
    order = read_order(columns, parts[2])
    sieve = read_sieve(columns, parts[3])
    return (make, moment, order, sieve.shown(), read_cut(columns, order, parts[4]))


def read_mark(columns, text):
    body, stop, check = text.rpartition(STOP)
    if stop == "" or check != check_word(body):
        raise NoMark("the check is not that of the text")
    try:
        return read_body(columns, body)
    except (NoOrder, NoSieve, NoValue):
        raise NoMark("no order, sieve or key of these columns") from None
