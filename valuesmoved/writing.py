"""In which sequence cells can be written. A write is a tuple of a cell and of the value that it gets."""

from valuesmoved.unchecked import back_in, missing_in, rings_in, wrong_in


def writes_in(now, wish, broken):
    """The writes of the cells in no ring and of the rings to be broken, one after another; nothing is missing."""
    plain = plain_writes(now, wish)
    if not broken:
        return plain
    scratch, last = _scratch(now, wish, plain)
    ahead = [write for write in plain if write not in last]
    return [*ahead, *[write for ring in broken for write in _ring_writes(now, wish, ring, scratch)], *last]


def plain_writes(now, wish):
    """One write for each wrong cell in no ring, none of them before its value is in another cell or needed no more."""
    ringed = [cell for ring in rings_in(now, wish) for cell in ring]
    wish = [None if cell in ringed else item for cell, item in enumerate(wish)]
    held = list(now)
    left = wrong_in(held, wish)
    writes = []
    while left:
        cell = _next_cell(held, wish, left)
        left.remove(cell)
        held[cell] = wish[cell]
        writes.append((cell, wish[cell]))
    return writes


def as_row(now, writes):
    """The row of one move for each write."""
    held = list(now)
    row = []
    for cell, value in writes:
        row.append(("move", held.index(value), cell))
        held[cell] = value
    return row


def _next_cell(held, wish, left):
    """The first cell that can be written such that the others still can be, each with a single write."""
    for cell in left:
        behind = list(held)
        behind[cell] = wish[cell]
        # There is such a cell: without rings, no more moves are needed than there are wrong cells.
        if not missing_in(behind, wish) and not rings_in(behind, wish):
            return cell
    return None


def _scratch(now, wish, plain):
    """The cell that rings are broken through, behind all plain writes but those that must be the last of all."""
    free = [cell for cell, item in enumerate(wish) if item is None]
    if free:
        return free[0], []
    if plain:
        # Nobody needs any more what the last of them holds, and it is written anyway.
        return plain[-1][0], [plain[-1]]
    back = back_in(now, wish)[0]
    return back, [(back, now[back])]


def _ring_writes(now, wish, ring, scratch):
    """The writes of a ring whose first value is kept in the scratch cell meanwhile."""
    return [(scratch, now[ring[0]]), *[(cell, wish[cell]) for cell in ring]]
