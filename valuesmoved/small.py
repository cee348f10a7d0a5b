"""The least numbers of few cells, by trying all moves."""

from valuesmoved.checks import check_few, check_kinds, check_now, check_wish
from valuesmoved.kindmoves import IN_REGISTER
from valuesmoved.unchecked import wrong_in

# Of so many cells all contents that can be reached are gone through.
MOST_TRIED = 5


def fewest_by_trying(now, wish, kinds):
    """The length of the shortest rows of moves, none from memory to memory, that do the wish, or None."""
    check_wish(now, wish)
    check_kinds(kinds, len(now), len(now))
    check_few(len(now), MOST_TRIED)
    numbers = [number for held, number in _numbers(now, kinds) if not wrong_in(held, wish)]
    return min(numbers, default=None)


def reachable(now, kinds):
    """The ascending list of all contents that rows of moves, none from memory to memory, lead to."""
    check_now(now)
    check_kinds(kinds, len(now), len(now))
    check_few(len(now), MOST_TRIED)
    return sorted([list(held) for held, _ in _numbers(now, kinds)])


def _numbers(now, kinds):
    """The list of each content that such rows lead to, as a tuple, and of how few moves do."""
    moves = _moves(kinds)
    found = {tuple(now): 0}
    last = [tuple(now)]
    while last:
        fresh = []
        for held in last:
            for source, target in moves:
                behind = (*held[:target], held[source], *held[target + 1:])
                if behind not in found:
                    found[behind] = found[held] + 1
                    fresh.append(behind)
        last = fresh
    return list(found.items())


def _moves(kinds):
    """All moves but those from memory to memory."""
    cells = range(len(kinds))
    return [(source, target) for source in cells for target in cells
            if source != target and IN_REGISTER in (kinds[source], kinds[target])]
