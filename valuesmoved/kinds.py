"""Registers and memory: how few moves do a wish if none of them leads from memory to memory."""

from valuesmoved.checks import MOST_CELLS, check_kinds, check_nothing_missing, check_number, check_wish
from valuesmoved.checks import is_numbers_of, is_ways_of
from valuesmoved.errors import HeldTwice, NotIdle
from valuesmoved.kindmoves import IN_MEMORY, IN_REGISTER, KindMoves, closed_in, opening
from valuesmoved.rows import does, is_row
from valuesmoved.unchecked import wanting, wrong_in

# The first keeps a value of a row that goes round, the second one lets values pass meanwhile.
LEAST_IDLE = 2


def is_kind_row(kinds, value):
    """Whether any value is a row of moves alone, none of which leads from memory to memory."""
    check_kinds(kinds, 1, MOST_CELLS)
    return _is_kind_row(kinds, value)


def idle_registers(now, wish, kinds):
    """The ascending list of the free registers whose value is not needed."""
    _check_kinds(now, wish, kinds)
    return _idle_in(now, wish, kinds)


def loads(now, wish, kinds):
    """The ascending list of the values that must pass a register which does not want them."""
    _check_kinds(now, wish, kinds)
    _check_held_once(now, wish)
    return _loads_in(now, wish, kinds)


def bound_rows(now, wish, kinds):
    """The ascending list of the closed rows that cost a move more."""
    _check_kinds(now, wish, kinds)
    _check_held_once(now, wish)
    return _bound_in(now, wish, kinds)


def fewest_kind_moves(now, wish, kinds):
    """The length of the shortest rows of this kind that do the wish."""
    _check_kinds(now, wish, kinds)
    _check_held_once(now, wish)
    _check_idle(now, wish, kinds)
    return len(wrong_in(now, wish)) + len(_loads_in(now, wish, kinds)) + len(_bound_in(now, wish, kinds))


def some_kind_moves(now, wish, kinds):
    """A shortest row of this kind that does the wish."""
    _check_kinds(now, wish, kinds)
    _check_held_once(now, wish)
    _check_idle(now, wish, kinds)
    moves = KindMoves(now, wish, kinds, _idle_in(now, wish, kinds))
    moves.write_all()
    return list(moves.row)


def does_kinds(now, wish, kinds, value):
    """Whether any value is a row of this kind that does the wish."""
    _check_kinds(now, wish, kinds)
    return _is_kind_row(kinds, value) and does(now, wish, value)


def shows_kind_bound(now, wish, kinds, number, value):
    """Whether any value shows by wrong cells, loads and bound rows that so many moves are not enough."""
    _check_kinds(now, wish, kinds)
    check_number(number)
    _check_held_once(now, wish)
    if not isinstance(value, tuple) or len(value) != 3:
        return False
    cells, values, ways = value
    return (
        is_numbers_of(cells, wrong_in(now, wish))
        and is_numbers_of(values, _loads_in(now, wish, kinds))
        and is_ways_of(ways, _bound_in(now, wish, kinds))
        and len(cells) + len(values) + len(ways) > number
    )


def _check_kinds(now, wish, kinds):
    """The errors of the three parameters."""
    check_wish(now, wish)
    check_kinds(kinds, len(now), len(now))


def _check_held_once(now, wish):
    """Missing, then HeldTwice if two cells hold a needed value; the parameters are known to be right."""
    check_nothing_missing(now, wish)
    for value in sorted(wanting(now, wish)):
        if now.count(value) > 1:
            raise HeldTwice(value)


def _check_idle(now, wish, kinds):
    """NotIdle if there are too few idle registers."""
    if len(_idle_in(now, wish, kinds)) < LEAST_IDLE:
        raise NotIdle("fewer than two registers are idle")


def _is_kind_row(kinds, value):
    """Whether any value is a row of this kind, for kinds that are known to be right."""
    return is_row(len(kinds), value) and all([_is_kind_move(kinds, step) for step in value])


def _is_kind_move(kinds, step):
    """Whether a step is a move that does not lead from memory to memory."""
    word, source, target = step
    return word == "move" and IN_REGISTER in (kinds[source], kinds[target])


def _idle_in(now, wish, kinds):
    """The ascending list of the idle registers."""
    needed = wanting(now, wish)
    return [cell for cell, item in enumerate(wish)
            if item is None and kinds[cell] == IN_REGISTER and now[cell] not in needed]


def _loads_in(now, wish, kinds):
    """The ascending list of the loads."""
    found = []
    for value, cells in wanting(now, wish).items():
        # A register that wants it would be written first, and hand it on to memory.
        if kinds[now.index(value)] == IN_MEMORY and IN_REGISTER not in [kinds[cell] for cell in cells]:
            found.append(value)
    return sorted(found)


def _bound_in(now, wish, kinds):
    """The ascending list of the bound closed rows."""
    return [way for way in closed_in(now, wish) if opening(now, wish, kinds, way) is None]
