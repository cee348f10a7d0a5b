"""Rings of wrong cells, and the cells that help to open them."""

from valuesmoved.cells import holders, needed, wanters
from valuesmoved.checks import check_wish, is_cell


def rings(now, wish):
    """The ascending list of all rings."""
    following = _following(now, wish)
    found = []
    for start in sorted(following):
        ring = _ring_from(start, following)
        if ring is not None:
            found.append(ring)
    return found


def is_ring(now, wish, value):
    """Whether any value is a ring."""
    found = rings(now, wish)
    if not isinstance(value, tuple):
        return False
    # To Python, (False, True) is equal to (0, 1), but its items are no cells.
    return all([is_cell(len(now), item) for item in value]) and value in found


def spare_cells(now, wish):
    """The ascending list of the cells that are free, or wrong and in no ring."""
    ringed = [cell for ring in rings(now, wish) for cell in ring]
    return [cell for cell, item in enumerate(wish) if item != now[cell] and cell not in ringed]


def back_cells(now, wish):
    """The ascending list of the right cells whose value another right cell holds, too."""
    check_wish(now, wish)
    right = [cell for cell, item in enumerate(wish) if item == now[cell]]
    values = [now[cell] for cell in right]
    return [cell for cell in right if values.count(now[cell]) > 1]


def _following(now, wish):
    """For each cell that alone of the wrong ones wants what just one cell holds: that cell."""
    following = {}
    for value in needed(now, wish):
        wanting = wanters(now, wish, value)
        holding = holders(now, value)
        # A further cell of the same way bars it as well: what is written first must be held nowhere else.
        if len(wanting) == 1 and len(holding) == 1:
            following[wanting[0]] = holding[0]
    return following


def _ring_from(start, following):
    """The ring that begins with this cell, or None."""
    ring = [start]
    cell = following[start]
    # No cell follows two others, so this way cannot go round without the start;
    # and where a lesser cell comes, the start is not the least one.
    while cell > start and cell in following:
        ring.append(cell)
        cell = following[cell]
    return tuple(ring) if cell == start else None
