"""Orders: how they are written, the keys of rows in them, and which key comes ahead."""

from turnleaf.columns import place_of
from turnleaf.errors import NoOrder
from turnleaf.values import value_before

MOST_IN_ORDER = 4
UP_AHEAD = "+"
DOWN_AHEAD = "-"


def read_order_word(columns, word):
    sign = word[:1]
    name = word[1:]
    if sign not in (UP_AHEAD, DOWN_AHEAD):
        raise NoOrder(f"no + or - ahead: {word}")
    if place_of(columns, name) is None:
        raise NoOrder(f"no column's name: {name}")
    return (name, sign == UP_AHEAD)


def read_order(columns, text):
    if text == "":
        return []
    words = text.split(" ")
    if len(words) > MOST_IN_ORDER:
        raise NoOrder("an order has at most four columns")
    order = [read_order_word(columns, word) for word in words]
    names = [name for name, up in order]
    if len(set(names)) != len(names):
        raise NoOrder("a column stands twice")
    return order


def order_text(order):
    return " ".join([(UP_AHEAD if up else DOWN_AHEAD) + name for name, up in order])


def key_of(columns, order, row, values):
    return ([values[place_of(columns, name)] for name, up in order], row)


def key_ahead(order, one, other):
    for column, value, against in zip(order, one[0], other[0]):
        if value != against:
            return value_before(value, against) == column[1]
    return one[1] < other[1]
