"""Leaves: some rows of a line forth or back from a cut, and the cuts of their marks."""

from turnleaf.errors import NoSize
from turnleaf.lines import AHEAD, BEHIND, cut_place
from turnleaf.orders import key_of
from turnleaf.values import is_whole

LARGEST_SIZE = 100


def ask_size(size):
    if not is_whole(size) or not 1 <= size <= LARGEST_SIZE:
        raise NoSize(f"no size from 1 to {LARGEST_SIZE}: {size}")


def copy_of_cut(cut):
    if cut[0] in (AHEAD, BEHIND):
        values, row = cut[1]
        return (cut[0], (list(values), row))
    return cut


def cut_beside(columns, order, side, rows, cut):
    """The cut on this side of the one row; of no row the leaf's own cut."""
    if rows == []:
        # The list in the cut handed in is its owner's, who may change it.
        return copy_of_cut(cut)
    row, values = rows[0]
    return (side, key_of(columns, order, row, values))


def leaf_between(columns, order, line, cut, start, stop):
    here = [(row, list(values)) for row, values in line[start:stop]]
    back = None
    if start > 0:
        back = cut_beside(columns, order, AHEAD, here[:1], cut)
    forth = None
    if stop < len(line):
        forth = cut_beside(columns, order, BEHIND, here[-1:], cut)
    return (here, back, forth, start)


def leaf_forth(columns, order, line, cut, size):
    ask_size(size)
    start = cut_place(columns, order, line, cut)
    return leaf_between(columns, order, line, cut, start, min(start + size, len(line)))


def leaf_back(columns, order, line, cut, size):
    ask_size(size)
    stop = cut_place(columns, order, line, cut)
    return leaf_between(columns, order, line, cut, max(stop - size, 0), stop)
