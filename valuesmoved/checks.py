"""What the parameters must be, and the errors that they raise if they are not."""

from valuesmoved.errors import InvalidCell, InvalidKinds, InvalidNow, InvalidNumber, InvalidRow, InvalidSources
from valuesmoved.errors import InvalidTicks, InvalidWish, Missing, TooLarge
from valuesmoved.unchecked import missing_in

LEAST_VALUE = -(10 ** 30)
GREATEST_VALUE = 10 ** 30
MOST_CELLS = 60
MOST_STEPS = 200
MOST_TICKS = 200
MOST_WIDTH = 3
MOST_TURNS = 10 ** 30


def is_integer(value):
    """Whether any value is an integer; a bool is none, although Python counts it as one."""
    return isinstance(value, int) and not isinstance(value, bool)


def is_between(value, least, greatest):
    """Whether any value is an integer in this range."""
    return is_integer(value) and least <= value <= greatest


def is_held(item):
    """Whether a cell can hold it."""
    return is_between(item, LEAST_VALUE, GREATEST_VALUE)


def is_wanted(item):
    """Whether it can be an item of a wish."""
    return item is None or is_held(item)


def is_cell(cells, item):
    """Whether it is one of so many cells."""
    return is_between(item, 0, cells - 1)


def is_step(cells, item):
    """Whether it is a step for so many cells."""
    if not isinstance(item, tuple) or len(item) != 3:
        return False
    word, source, target = item
    return word in ("move", "swap") and is_cell(cells, source) and is_cell(cells, target) and source != target


def is_move(cells, item):
    """Whether it is a move for so many cells, as ticks have them."""
    return isinstance(item, tuple) and is_step(cells, ("move", *item))


def is_tick(cells, width, item):
    """Whether it is a tick of the width for so many cells."""
    if not is_list_of(item, 1, width) or not all([is_move(cells, move) for move in item]):
        return False
    return len({target for _, target in item}) == len(item)


def is_list_of(value, fewest, most):
    """Whether any value is a list of so many items."""
    return isinstance(value, list) and fewest <= len(value) <= most


def is_cell_list(cells, value):
    """Whether any value is an ascending list of so many cells."""
    if not isinstance(value, list):
        return False
    least = 0
    for cell in value:
        if not is_between(cell, least, cells - 1):
            return False
        least = cell + 1
    return True


def is_way(value):
    """Whether any value is a tuple of integers; to Python, (False, True) is equal to (0, 1)."""
    return isinstance(value, tuple) and all([is_integer(item) for item in value])


def is_ascending(items):
    """Whether each item, integers or tuples of them, is greater than the one ahead of it."""
    return all([first < second for first, second in zip(items, items[1:])])


def is_numbers_of(value, found):
    """Whether any value is an ascending list of some of these integers."""
    if not isinstance(value, list) or not all([is_integer(item) and item in found for item in value]):
        return False
    return is_ascending(value)


def is_ways_of(value, found):
    """Whether any value is an ascending list of some of these tuples of cells."""
    if not isinstance(value, list) or not all([is_way(item) and item in found for item in value]):
        return False
    return is_ascending(value)


def check_now(now):
    """InvalidNow unless it is a content."""
    if not is_list_of(now, 1, MOST_CELLS):
        raise InvalidNow(None)
    for index, item in enumerate(now):
        if not is_held(item):
            raise InvalidNow(index)


def check_wish(now, wish):
    """InvalidNow unless now is a content, then InvalidWish unless wish is a wish for it."""
    check_now(now)
    if not is_list_of(wish, len(now), len(now)):
        raise InvalidWish(None)
    for index, item in enumerate(wish):
        if not is_wanted(item):
            raise InvalidWish(index)


def check_row(cells, row):
    """InvalidRow unless it is a row for so many cells."""
    if not is_list_of(row, 0, MOST_STEPS):
        raise InvalidRow(None)
    check_steps(cells, row)


def check_steps(cells, steps):
    """InvalidRow unless each one is a step for so many cells."""
    for index, item in enumerate(steps):
        if not is_step(cells, item):
            raise InvalidRow(index)


def check_ticks(cells, width, ticks):
    """InvalidTicks unless they are ticks of the width for so many cells."""
    if not is_list_of(ticks, 0, MOST_TICKS):
        raise InvalidTicks(None)
    for index, item in enumerate(ticks):
        if not is_tick(cells, width, item):
            raise InvalidTicks(index)


def check_sources(sources):
    """InvalidSources unless it is a source list."""
    if not is_list_of(sources, 1, MOST_CELLS):
        raise InvalidSources(None)
    for index, item in enumerate(sources):
        if not is_cell(len(sources), item):
            raise InvalidSources(index)


def check_kinds(kinds, fewest, most):
    """InvalidKinds unless it is a string of so many letters, each of them a kind."""
    if not isinstance(kinds, str) or not fewest <= len(kinds) <= most or not all([kind in "rm" for kind in kinds]):
        raise InvalidKinds("no string of one letter, r or m, for each cell")


def check_nothing_missing(now, wish):
    """Missing if a value is missing in a wish that is known to be right."""
    absent = missing_in(now, wish)
    if absent:
        raise Missing(absent[0])


def check_width(width):
    """InvalidNumber unless a tick can be so wide."""
    if not is_between(width, 1, MOST_WIDTH):
        raise InvalidNumber("no integer from 1 to 3")


def check_number(number):
    """InvalidNumber unless it is an integer from 0 on."""
    if not is_integer(number) or number < 0:
        raise InvalidNumber("no integer from 0 on")


def check_turns(turns):
    """InvalidNumber unless a source list can be asked for so many turns."""
    if not is_between(turns, 0, MOST_TURNS):
        raise InvalidNumber("no integer from 0 to 10 ** 30")


def check_item(item):
    """InvalidNumber unless it can be an item of a wish."""
    if not is_wanted(item):
        raise InvalidNumber("no item of a wish")


def check_cells(cells):
    """InvalidNumber unless there can be so many cells."""
    if not is_between(cells, 1, MOST_CELLS):
        raise InvalidNumber("no integer from 1 to 60")


def check_value(value):
    """InvalidNumber unless a cell can hold it."""
    if not is_held(value):
        raise InvalidNumber("no integer that a cell can hold")


def check_cell(cells, cell):
    """InvalidCell unless it is one of so many cells."""
    if not is_cell(cells, cell):
        raise InvalidCell("none of the cells")


def check_pair(cells, cell, other):
    """InvalidCell unless these are two different ones of so many cells."""
    check_cell(cells, cell)
    check_cell(cells, other)
    if cell == other:
        raise InvalidCell("the same cell twice")


def check_few(cells, limit):
    """TooLarge if there are more cells than can be tried."""
    if cells > limit:
        raise TooLarge(limit)


def check_counted(cells, counted):
    """InvalidCell unless it is an ascending list of so many cells."""
    if not is_cell_list(cells, counted):
        raise InvalidCell("no ascending list of cells")
