"""What the parameters must be, and the errors that they raise if they are not."""

from valuesmoved.errors import InvalidCell, InvalidNow, InvalidNumber, InvalidRow, InvalidWish

LEAST_VALUE = -(10 ** 30)
GREATEST_VALUE = 10 ** 30
MOST_CELLS = 60
MOST_STEPS = 200


def is_between(value, least, greatest):
    """Whether any value is an integer in this range; a bool is none, although Python counts it as one."""
    return isinstance(value, int) and not isinstance(value, bool) and least <= value <= greatest


def is_held(item):
    """Whether a cell can hold it."""
    return is_between(item, LEAST_VALUE, GREATEST_VALUE)


def is_wanted(item):
    """Whether it can be an item of a wish."""
    return item is None or is_held(item)


def is_cell(cells, item):
    """Whether it is one of so many cells."""
    return is_between(item, 0, cells - 1)


def is_step(cells, item):
    """Whether it is a step for so many cells."""
    if not isinstance(item, tuple) or len(item) != 3:
        return False
    word, source, target = item
    return word in ("move", "swap") and is_cell(cells, source) and is_cell(cells, target) and source != target


def is_list_of(value, fewest, most):
    """Whether any value is a list of so many items."""
    return isinstance(value, list) and fewest <= len(value) <= most


def is_cell_list(cells, value):
    """Whether any value is an ascending list of so many cells."""
    if not isinstance(value, list):
        return False
    least = 0
    for cell in value:
        if not is_between(cell, least, cells - 1):
            return False
        least = cell + 1
    return True


def check_now(now):
    """InvalidNow unless it is a content."""
    if not is_list_of(now, 1, MOST_CELLS):
        raise InvalidNow(None)
    for index, item in enumerate(now):
        if not is_held(item):
            raise InvalidNow(index)


def check_wish(now, wish):
    """InvalidNow unless now is a content, then InvalidWish unless wish is a wish for it."""
    check_now(now)
    if not is_list_of(wish, len(now), len(now)):
        raise InvalidWish(None)
    for index, item in enumerate(wish):
        if not is_wanted(item):
            raise InvalidWish(index)


def check_row(cells, row):
    """InvalidRow unless it is a row for so many cells."""
    if not is_list_of(row, 0, MOST_STEPS):
        raise InvalidRow(None)
    for index, item in enumerate(row):
        if not is_step(cells, item):
            raise InvalidRow(index)


def check_cells(cells):
    """InvalidNumber unless there can be so many cells."""
    if not is_between(cells, 1, MOST_CELLS):
        raise InvalidNumber("no integer from 1 to 60")


def check_value(value):
    """InvalidNumber unless a cell can hold it."""
    if not is_held(value):
        raise InvalidNumber("no integer that a cell can hold")


def check_counted(cells, counted):
    """InvalidCell unless it is an ascending list of so many cells."""
    if not is_cell_list(cells, counted):
        raise InvalidCell("no ascending list of cells")
