"""Pages: leaves as lists of texts, and those read back."""

from turnleaf.columns import LARGEST_ROW, kinds_of, row_words
from turnleaf.errors import NoPage, NoValue
from turnleaf.values import TEN_FIGURES, read_figures, read_values

WORDS_OF_HEAD = 5
TOUCHED = "*"
BACK_AHEAD = "back "
FORTH_AHEAD = "forth "


def row_text(row, values, untouched):
    words = row_words(row, values)
    if not untouched:
        words.append(TOUCHED)
    return " ".join(words)


def page_of(leaf):
    rows, back, forth, many, ahead, moment = leaf
    here = len(rows)
    page = [f"{ahead}+{here} of {many} at {moment}"]
    for row, values, untouched in rows:
        page.append(row_text(row, values, untouched))
    if back is not None:
        page.append(BACK_AHEAD + back)
    if forth is not None:
        page.append(FORTH_AHEAD + forth)
    return page


def text_at(texts, at):
    # The number of a text that lacks is how many there are.
    if at >= len(texts):
        raise NoPage(at)
    return texts[at]


def read_head(texts):
    words = text_at(texts, 0).split(" ")
    counts = words[0].split("+")
    if len(words) != WORDS_OF_HEAD or len(counts) != 2 or words[1] != "of" or words[3] != "at":
        raise NoPage(0)
    numbers = [read_figures(word, TEN_FIGURES) for word in counts + [words[2], words[4]]]
    if None in numbers:
        raise NoPage(0)
    return numbers


def read_row(columns, texts, at):
    words = text_at(texts, at).split(" ")
    row = read_figures(words[0], LARGEST_ROW)
    if row is None:
        raise NoPage(at)
    # No value is written so, and a row that lacks a value has too few words without it.
    touched = words[-1] == TOUCHED
    try:
        values = read_values(kinds_of(columns), words[1:-1] if touched else words[1:])
    except NoValue:
        raise NoPage(at) from None
    return (row, values, not touched)


def mark_behind(word, texts, at):
    """The mark behind this word, if the text at this place has both."""
    if at < len(texts) and texts[at].startswith(word) and texts[at] != word:
        return texts[at][len(word):]
    return None


def read_page(columns, texts):
    ahead, here, many, moment = read_head(texts)
    rows = [read_row(columns, texts, at) for at in range(1, here + 1)]
    at = here + 1
    back = mark_behind(BACK_AHEAD, texts, at)
    if back is not None:
        at += 1
    forth = mark_behind(FORTH_AHEAD, texts, at)
    if forth is not None:
        at += 1
    if at < len(texts):
        raise NoPage(at)
    return (rows, back, forth, many, ahead, moment)
