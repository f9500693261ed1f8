"""Values of columns: which there are, which one is before another, and the words that write them."""

from turnleaf.errors import NoValue

NUMBER = "number"
TEXT = "text"
FIGURES = "0123456789"
LETTERS = "abcdefghijklmnopqrstuvwxyz"
TEXT_SIGNS = "abcdefghijklmnopqrstuvwxyz0123456789-"
LARGEST = 1_000_000_000_000_000_000
LONGEST = 20
TEN_FIGURES = 9_999_999_999
NONE_WORD = "?"
TEXT_AHEAD = "'"
BELOW_AHEAD = "-"


def is_whole(value):
    # Python counts True and False among its whole numbers; the document does not.
    return isinstance(value, int) and not isinstance(value, bool)


def made_of(text, signs):
    return all([sign in signs for sign in text])


def is_number_value(value):
    return is_whole(value) and -LARGEST <= value <= LARGEST


def is_text_value(value):
    return isinstance(value, str) and len(value) <= LONGEST and made_of(value, TEXT_SIGNS)


def is_value(kind, value):
    if value is None:
        return True
    if kind == NUMBER:
        return is_number_value(value)
    return is_text_value(value)


def value_before(one, other):
    if other is None:
        return False
    if one is None:
        return True
    return one < other


def value_word(value):
    if value is None:
        return NONE_WORD
    if isinstance(value, str):
        return TEXT_AHEAD + value
    return str(value)


def are_figures(word):
    # Without noughts ahead each number has one word only.
    return word == "0" or (word != "" and word[0] != "0" and made_of(word, FIGURES))


def read_figures(word, most):
    """The number from 0 to most that the word writes, or None."""
    # Python's int takes no text beyond some thousand figures, so the length is asked ahead of it.
    if are_figures(word) and len(word) <= len(str(most)):
        number = int(word)
        if number <= most:
            return number
    return None


def read_number_word(word):
    below = word.startswith(BELOW_AHEAD)
    number = read_figures(word[1:] if below else word, LARGEST)
    # 0 has its word already, without a sign ahead.
    if number is None or (below and number == 0):
        raise NoValue(f"no number's word: {word}")
    return -number if below else number


def read_text_word(word):
    if word.startswith(TEXT_AHEAD) and is_text_value(word[1:]):
        return word[1:]
    raise NoValue(f"no text's word: {word}")


def read_value(kind, word):
    if word == NONE_WORD:
        return None
    if kind == NUMBER:
        return read_number_word(word)
    return read_text_word(word)


def read_values(kinds, words):
    """A value by each of the kinds, of as many words."""
    if len(words) != len(kinds):
        raise NoValue("there is a word for each value")
    return [read_value(kind, word) for kind, word in zip(kinds, words)]
