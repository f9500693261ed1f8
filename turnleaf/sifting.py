"""Reading sieves: a text is walked word by word, and the first word that is not as told is refused by its number."""

from turnleaf.columns import place_of
from turnleaf.errors import NoSieve, NoValue
from turnleaf.sieves import (
    AllSieve, BothSieve, EitherSieve, HoldsSieve, IsSieve, NoneSieve, NotSieve, OverSieve, UnderSieve,
)
from turnleaf.values import TEXT, read_value

MOST_WORDS = 60
MOST_WITHIN = 20
ALL = "all"
NONE = "none"
IS = "is"
UNDER = "under"
OVER = "over"
HOLDS = "holds"
NOT = "not"
BOTH = "both"
EITHER = "either"


def word_at(words, place):
    # The place of a word that lacks is how many there are; that of one too many is its own number.
    if place >= len(words) or place >= MOST_WORDS:
        raise NoSieve(place)
    return words[place]


def text_between(words, start, behind):
    return " ".join(words[start:behind])


def read_column(columns, words, place):
    column = place_of(columns, word_at(words, place))
    if column is None:
        raise NoSieve(place)
    return column


def read_word(kind, words, place):
    word = word_at(words, place)
    try:
        value = read_value(kind, word)
    except NoValue:
        raise NoSieve(place) from None
    if value is None:
        raise NoSieve(place)
    return value


def read_none(columns, words, start):
    column = read_column(columns, words, start + 1)
    return NoneSieve(text_between(words, start, start + 2), column), start + 2


def read_of_value(columns, words, start):
    word = words[start]
    column = read_column(columns, words, start + 1)
    kind = columns[column][1]
    if word == HOLDS and kind != TEXT:
        raise NoSieve(start + 1)
    value = read_word(kind, words, start + 2)
    text = text_between(words, start, start + 3)
    if word == IS:
        return IsSieve(text, column, value), start + 3
    if word == UNDER:
        return UnderSieve(text, column, value), start + 3
    if word == OVER:
        return OverSieve(text, column, value), start + 3
    return HoldsSieve(text, column, value), start + 3


def read_of_sieves(columns, words, start, within):
    if within > MOST_WITHIN:
        raise NoSieve(start)
    word = words[start]
    one, behind = read_part(columns, words, start + 1, within)
    if word == NOT:
        return NotSieve(text_between(words, start, behind), one), behind
    other, behind = read_part(columns, words, behind, within)
    text = text_between(words, start, behind)
    if word == BOTH:
        return BothSieve(text, one, other), behind
    return EitherSieve(text, one, other), behind


def read_part(columns, words, start, within):
    word = word_at(words, start)
    if word == ALL:
        return AllSieve(word), start + 1
    if word == NONE:
        return read_none(columns, words, start)
    if word in (IS, UNDER, OVER, HOLDS):
        return read_of_value(columns, words, start)
    if word in (NOT, BOTH, EITHER):
        return read_of_sieves(columns, words, start, within + 1)
    raise NoSieve(start)


def read_sieve(columns, text):
    words = text.split(" ")
    sieve, behind = read_part(columns, words, 0, 0)
    if behind < len(words):
        raise NoSieve(behind)
    return sieve
