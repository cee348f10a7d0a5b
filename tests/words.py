"""What DOC.md says of small contents, word for word, as slow as it may be."""

import itertools


def wrong_ones(now, wish):
    return [cell for cell in range(len(now)) if wish[cell] is not None and wish[cell] != now[cell]]


def missing_ones(now, wish):
    return sorted({wish[cell] for cell in wrong_ones(now, wish)} - set(now))


def ways_among(cells):
    """All tuples of two or more of these cells, the least one first."""
    tried = [way for many in range(2, len(cells) + 1) for way in itertools.permutations(cells, many)]
    return [way for way in tried if way[0] == min(way)]


def next_ones(way):
    return [*way[1:], way[0]]


def is_ring_by_the_words(now, wish, ring):
    """Whether a tuple of different cells, two or more, is a ring."""
    wrong = wrong_ones(now, wish)
    if ring[0] != min(ring) or any(cell not in wrong for cell in ring):
        return False
    for cell, following in zip(ring, next_ones(ring)):
        if wish[cell] != now[following]:
            return False
        if any(now[other] == wish[cell] for other in range(len(now)) if other != following):
            return False
        if any(wish[other] == wish[cell] for other in wrong if other != cell):
            return False
    return True


def rings_by_the_words(now, wish):
    return sorted(way for way in ways_among(range(len(now))) if is_ring_by_the_words(now, wish, way))


def spare_by_the_words(now, wish):
    ringed = {cell for ring in rings_by_the_words(now, wish) for cell in ring}
    return [cell for cell in range(len(now))
            if wish[cell] is None or (wish[cell] != now[cell] and cell not in ringed)]


def back_by_the_words(now, wish):
    right = [cell for cell in range(len(now)) if wish[cell] == now[cell]]
    return [cell for cell in right if any(now[cell] == now[other] for other in right if other != cell)]


def closed_by_the_words(now, wish):
    """The ascending list of all closed ways."""
    return sorted(way for way in ways_among(wrong_ones(now, wish))
                  if all(wish[cell] == now[following] for cell, following in zip(way, next_ones(way))))


def row_behind(now, row):
    """The content behind the row, one step after the other."""
    for word, a, b in row:
        behind = {b: now[a]} if word == "move" else {a: now[b], b: now[a]}
        now = [behind.get(cell, item) for cell, item in enumerate(now)]
    return now


def ticks_behind(now, ticks):
    """The content behind the ticks, all cells of one read before one is written."""
    for tick in ticks:
        behind = {b: now[a] for a, b in tick}
        now = [behind.get(cell, item) for cell, item in enumerate(now)]
    return now


def is_order_by_the_words(now, wish, cells):
    """Whether these cells can be written in this sequence, each from a cell that holds then what it wants."""
    for cell in cells:
        if wish[cell] not in now:
            return False
        now = [wish[cell] if other == cell else item for other, item in enumerate(now)]
    return True


def orders_by_the_words(now, wish):
    """The ascending list of all orders."""
    return [list(cells) for cells in itertools.permutations(wrong_ones(now, wish))
            if is_order_by_the_words(now, wish, cells)]


def twice_ones(now, wish):
    """The needed values that no right and no free cell holds, but two wrong cells do."""
    wrong = wrong_ones(now, wish)
    others = [now[cell] for cell in range(len(now)) if cell not in wrong]
    held = [now[cell] for cell in wrong]
    return sorted({wish[cell] for cell in wrong if wish[cell] not in others and held.count(wish[cell]) > 1})


def is_done_by(behind, wish):
    return all(item is None or item == held for held, item in zip(behind, wish))
