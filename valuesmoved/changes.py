"""What a changed wish or a further cell is worth."""

from valuesmoved.checks import GREATEST_VALUE, check_cell, check_item, check_number, check_value, check_wish
from valuesmoved.unchecked import fewest_in, rings_in


def fewest_with(now, wish, cell, item):
    """The fewest moves if the cell wants the item, or None."""
    check_wish(now, wish)
    check_cell(len(now), cell)
    check_item(item)
    return fewest_in(now, _changed(wish, cell, item))


def with_free(now, wish, number):
    """The fewest moves if so many free cells are added, or None."""
    check_wish(now, wish)
    check_number(number)
    if number == 0:
        return fewest_in(now, wish)
    # More than one is never needed, and no cell can hold or want what it holds.
    return fewest_in([*now, GREATEST_VALUE + 1], [*wish, None])


def with_copy(now, wish, value):
    """The fewest moves if one free cell is added that holds the value, or None."""
    check_wish(now, wish)
    check_value(value)
    return fewest_in([*now, value], [*wish, None])


def best_drops(now, wish):
    """The fewest moves if just one cell becomes free, and the ascending list of the cells with which so few do it."""
    check_wish(now, wish)
    found = {}
    for cell, item in enumerate(wish):
        if item is not None:
            found[cell] = fewest_in(now, _changed(wish, cell, None))
    best = min([number for number in found.values() if number is not None], default=None)
    if best is None:
        return None, []
    return best, [cell for cell, number in found.items() if number == best]


def unlocking(now, wish):
    """The least list of as few cells as possible that must become free so that there is no ring."""
    check_wish(now, wish)
    # Rings have no common cell, and only a free cell of its own opens a ring.
    return [ring[0] for ring in rings_in(now, wish)]


def _changed(wish, cell, item):
    """The wish in which the cell wants the item."""
    return [*wish[:cell], item, *wish[cell + 1:]]
