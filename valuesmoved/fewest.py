"""How few moves do a wish, and why fewer do not."""

from valuesmoved.checks import check_nothing_missing, check_number, check_wish, is_between, is_integer
from valuesmoved.checks import is_numbers_of, is_ways_of
from valuesmoved.errors import NoMoves
from valuesmoved.unchecked import back_moves, fewest_in, missing_in, rings_in, spare_in, wrong_in
from valuesmoved.writing import as_row, writes_in


def fewest_moves(now, wish):
    """The length of the shortest rows of moves that do the wish, or None."""
    check_wish(now, wish)
    return fewest_in(now, wish)


def some_moves(now, wish):
    """A shortest row of moves that does the wish."""
    _check_possible(now, wish)
    return as_row(now, writes_in(now, wish, rings_in(now, wish)))


def first_moves(now, wish):
    """The ascending list of all moves with which a shortest row can begin."""
    _check_possible(now, wish)
    left = fewest_in(now, wish) - 1
    cells = range(len(now))
    return [(source, target) for source in cells for target in cells
            if source != target and fewest_in(_behind(now, source, target), wish) == left]


def refusal(now, wish, number):
    """A tuple that shows why so many moves are not enough, or None if they are."""
    check_wish(now, wish)
    check_number(number)
    absent = missing_in(now, wish)
    if absent:
        return ("missing", absent[0])
    wrong = wrong_in(now, wish)
    found = rings_in(now, wish)
    back = back_moves(now, wish, found)
    if back is None:
        return ("stuck",)
    return ("count", wrong, found, back) if len(wrong) + len(found) + back > number else None


def shows_refusal(now, wish, number, value):
    """Whether any value is a tuple that shows why so many moves are not enough."""
    check_wish(now, wish)
    check_number(number)
    if not isinstance(value, tuple) or len(value) == 0:
        return False
    word, *told = value
    if word == "missing":
        return len(told) == 1 and is_integer(told[0]) and told[0] in missing_in(now, wish)
    if word == "stuck":
        return len(told) == 0 and back_moves(now, wish, rings_in(now, wish)) is None
    return word == "count" and len(told) == 3 and _is_count(now, wish, number, told)


def _is_count(now, wish, number, told):
    """Whether these are wrong cells, rings and 0 or 1 for a back cell, together more than the number."""
    wrong, ways, back = told
    found = rings_in(now, wish)
    most = 1 if found and not spare_in(now, wish, found) else 0
    if not is_numbers_of(wrong, wrong_in(now, wish)) or not is_ways_of(ways, found) or not is_between(back, 0, most):
        return False
    return len(wrong) + len(ways) + back > number


def _check_possible(now, wish):
    """Missing if a value is missing, NoMoves if no moves do the wish although none is."""
    check_wish(now, wish)
    check_nothing_missing(now, wish)
    if fewest_in(now, wish) is None:
        raise NoMoves("neither a spare cell nor a back cell for the rings")


def _behind(now, source, target):
    """The content behind one move."""
    left = list(now)
    left[target] = now[source]
    return left
