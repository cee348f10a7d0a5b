"""Contents of cells, wishes for them, and what a wish needs."""

from valuesmoved.checks import MOST_CELLS, check_now, check_value, check_wish, is_held, is_list_of, is_wanted
from valuesmoved.unchecked import missing_in, wrong_in


def is_now(value):
    """Whether any value is a content."""
    return is_list_of(value, 1, MOST_CELLS) and all([is_held(item) for item in value])


def is_wish(now, value):
    """Whether any value is a wish for the content."""
    check_now(now)
    return is_list_of(value, len(now), len(now)) and all([is_wanted(item) for item in value])


def wrong_cells(now, wish):
    """The ascending list of the cells that want what they do not hold."""
    check_wish(now, wish)
    return wrong_in(now, wish)


def free_cells(now, wish):
    """The ascending list of the cells that want nothing."""
    check_wish(now, wish)
    return [cell for cell, item in enumerate(wish) if item is None]


def needed(now, wish):
    """The ascending list of the values that a wrong cell wants."""
    wanted = [wish[cell] for cell in wrong_cells(now, wish)]
    return sorted(set(wanted))


def holders(now, value):
    """The ascending list of the cells that hold the value."""
    check_now(now)
    check_value(value)
    return [cell for cell, item in enumerate(now) if item == value]


def wanters(now, wish, value):
    """The ascending list of the wrong cells that want the value."""
    check_wish(now, wish)
    check_value(value)
    return [cell for cell in wrong_cells(now, wish) if wish[cell] == value]


def missing(now, wish):
    """The least needed value that no cell holds, or None."""
    check_wish(now, wish)
    absent = missing_in(now, wish)
    return absent[0] if absent else None


def is_done(now, wish):
    """Whether no cell is wrong."""
    return len(wrong_cells(now, wish)) == 0
