"""Rows of moves and swaps, and what stands in the cells behind them."""

from valuesmoved.cells import is_done
from valuesmoved.checks import MOST_STEPS, check_cells, check_counted, check_now, check_row, check_wish
from valuesmoved.checks import is_list_of, is_step
from valuesmoved.unchecked import behind_row


def is_row(cells, value):
    """Whether any value is a row for so many cells."""
    check_cells(cells)
    return is_list_of(value, 0, MOST_STEPS) and all([is_step(cells, item) for item in value])


def after_row(now, row):
    """The content behind the row."""
    check_now(now)
    check_row(len(now), row)
    return behind_row(now, row)


def sources_of(cells, row):
    """The list that tells for each cell which cell's first value it holds behind the row."""
    check_cells(cells)
    check_row(cells, row)
    return behind_row(list(range(cells)), row)


def same_rows(cells, row, second, counted):
    """Whether both rows let each counted cell hold the first value of the same cell."""
    ours = sources_of(cells, row)
    theirs = sources_of(cells, second)
    check_counted(cells, counted)
    return all([ours[cell] == theirs[cell] for cell in counted])


def does(now, wish, value):
    """Whether any value is a row that does the wish."""
    check_wish(now, wish)
    return is_row(len(now), value) and is_done(after_row(now, value), wish)


def lost(now, row):
    """The ascending list of the values that a cell holds at first and none behind the row."""
    left = after_row(now, row)
    return sorted(set(now) - set(left))


def turned(cells, row):
    """The source list that leads back, or None if the row loses the first value of a cell."""
    sources = sources_of(cells, row)
    if sorted(sources) != list(range(cells)):
        return None
    return [sources.index(cell) for cell in range(cells)]
