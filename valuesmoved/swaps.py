"""How few steps do a wish if cells can be exchanged, and the closed ways that save them."""

from valuesmoved.checks import check_nothing_missing, check_wish, is_ascending, is_way
from valuesmoved.errors import NoSwaps, TooLarge
from valuesmoved.unchecked import missing_in, rounds, wrong_in
from valuesmoved.writing import as_row, plain_writes

# So many wrong cells are searched for ways if two of them hold one value.
MOST_SEARCHED = 8


def fewest_steps(now, wish):
    """The length of the shortest rows of moves and swaps that do the wish, or None."""
    check_wish(now, wish)
    _check_size(now, wish)
    if missing_in(now, wish):
        return None
    return len(wrong_in(now, wish)) - len(_most_ways(now, wish))


def some_steps(now, wish):
    """A shortest row of moves and swaps that does the wish."""
    check_wish(now, wish)
    check_nothing_missing(now, wish)
    _check_size(now, wish)
    ways = _most_ways(now, wish)
    turned = [cell for way in ways for cell in way]
    behind = [wish[cell] if cell in turned else item for cell, item in enumerate(now)]
    # No closed way is left, so no ring is; and all that the cells of the ways held is still there.
    return [*_swaps(ways), *as_row(behind, plain_writes(behind, wish))]


def some_ways(now, wish):
    """An ascending list of as many closed ways as possible without a common cell."""
    check_wish(now, wish)
    _check_size(now, wish)
    return _most_ways(now, wish)


def are_ways(now, wish, value):
    """Whether any value is an ascending list of closed ways without a common cell."""
    check_wish(now, wish)
    if not isinstance(value, list) or not all([_is_closed(now, wish, way) for way in value]):
        return False
    cells = [cell for way in value for cell in way]
    return is_ascending(value) and len(set(cells)) == len(cells)


def fewest_swaps(now, wish):
    """The length of the shortest rows of swaps alone that do the wish."""
    _check_swaps(now, wish)
    return len(wrong_in(now, wish)) - len(_most_ways(now, wish))


def some_swaps(now, wish):
    """A shortest row of swaps alone that does the wish."""
    _check_swaps(now, wish)
    # Each value is wanted as often as it is held, so that the most ways pass through all wrong cells.
    return _swaps(_most_ways(now, wish))


def _check_swaps(now, wish):
    """NoSwaps unless each cell wants something and each value as often as it is held; then TooLarge."""
    check_wish(now, wish)
    if None in wish:
        raise NoSwaps("a cell is free")
    if sorted(now) != sorted(wish):
        raise NoSwaps("a value is not wanted by as many cells as hold it")
    _check_size(now, wish)


def _check_size(now, wish):
    """TooLarge if more cells are wrong than are searched, and two of these hold one value."""
    wrong = wrong_in(now, wish)
    if len(wrong) > MOST_SEARCHED and not _are_distinct(now, wrong):
        raise TooLarge(MOST_SEARCHED)


def _are_distinct(now, cells):
    """Whether no two of these cells hold one value."""
    return len({now[cell] for cell in cells}) == len(cells)


def _is_closed(now, wish, value):
    """Whether any value is a closed way."""
    if not is_way(value) or len(value) < 2 or len(set(value)) < len(value) or value[0] != min(value):
        return False
    wrong = wrong_in(now, wish)
    if not all([cell in wrong for cell in value]):
        return False
    return all([wish[cell] == now[following] for cell, following in zip(value, [*value[1:], value[0]])])


def _most_ways(now, wish):
    """An ascending list of as many closed ways as possible without a common cell."""
    wrong = wrong_in(now, wish)
    if not _are_distinct(now, wrong):
        return _searched(now, wish, wrong)
    holder = {now[cell]: cell for cell in wrong}
    # Each cell is followed by one at the most, so that no two of all closed ways have a common cell.
    return rounds({cell: holder[wish[cell]] for cell in wrong if wish[cell] in holder})


def _searched(now, wish, cells):
    """The same for some ascending wrong cells alone: the first one is in no way, or in one of its ways."""
    if not cells:
        return []
    first, *others = cells
    best = _searched(now, wish, others)
    for way in _ways_on(now, wish, (first,), others):
        left = [cell for cell in others if cell not in way]
        found = [way, *_searched(now, wish, left)]
        if len(found) > len(best):
            best = found
    return best


def _ways_on(now, wish, way, others):
    """All closed ways that begin with these cells and go on through some of the others."""
    wanted = wish[way[-1]]
    found = [way] if wanted == now[way[0]] else []
    for cell in others:
        if wanted == now[cell]:
            found += _ways_on(now, wish, (*way, cell), [other for other in others if other != cell])
    return found


def _swaps(ways):
    """The row of swaps that makes all cells of the ways right."""
    return [("swap", cell, following) for way in ways for cell, following in zip(way, way[1:])]
