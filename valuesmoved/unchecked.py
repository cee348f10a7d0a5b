"""What a content and a wish for it need, and what is behind steps; the callers have checked all of it."""


def wrong_in(now, wish):
    """The ascending list of the wrong cells."""
    return [cell for cell, item in enumerate(wish) if item is not None and item != now[cell]]


def missing_in(now, wish):
    """The ascending list of the missing values."""
    return sorted({wish[cell] for cell in wrong_in(now, wish) if wish[cell] not in now})


def holding(now):
    """For each value that is held: the ascending list of the cells that hold it."""
    found = {}
    for cell, item in enumerate(now):
        found.setdefault(item, []).append(cell)
    return found


def wanting(now, wish):
    """For each needed value: the ascending list of the wrong cells that want it."""
    found = {}
    for cell in wrong_in(now, wish):
        found.setdefault(wish[cell], []).append(cell)
    return found


def rounds(following):
    """The ascending list of the ways that go round, if each cell is followed by the one that the dict has for it."""
    seen = set()
    found = []
    for start in following:
        way = []
        cell = start
        while cell in following and cell not in seen:
            seen.add(cell)
            way.append(cell)
            cell = following[cell]
        if cell in way:
            found.append(least_first(way[way.index(cell):]))
    return sorted(found)


def least_first(way):
    """The same way round as a tuple that begins with the least cell."""
    at = way.index(min(way))
    return tuple(way[at:] + way[:at])


def rings_in(now, wish):
    """The ascending list of all rings."""
    held = holding(now)
    following = {}
    for value, cells in wanting(now, wish).items():
        # A further cell of the same way bars it as well: what is written first must be held nowhere else.
        if len(cells) == 1 and value in held and len(held[value]) == 1:
            following[cells[0]] = held[value][0]
    return rounds(following)


def spare_in(now, wish, found):
    """The ascending list of the spare cells, if these are all rings."""
    ringed = [cell for ring in found for cell in ring]
    return [cell for cell, item in enumerate(wish) if item != now[cell] and cell not in ringed]


def back_in(now, wish):
    """The ascending list of the back cells."""
    right = [cell for cell, item in enumerate(wish) if item == now[cell]]
    values = [now[cell] for cell in right]
    return [cell for cell in right if values.count(now[cell]) > 1]


def back_moves(now, wish, found):
    """0 if the rings, all of which these are, need no back cell; 1 if they need one; None if they lack it."""
    if not found or spare_in(now, wish, found):
        return 0
    return 1 if back_in(now, wish) else None


def fewest_in(now, wish):
    """The length of the shortest rows of moves that do the wish, or None."""
    if missing_in(now, wish):
        return None
    found = rings_in(now, wish)
    back = back_moves(now, wish, found)
    return None if back is None else len(wrong_in(now, wish)) + len(found) + back


def behind_row(held, row):
    """What the cells hold behind a row of steps."""
    left = list(held)
    for word, source, target in row:
        if word == "move":
            left[target] = left[source]
        else:
            left[source], left[target] = left[target], left[source]
    return left


def behind_ticks(held, ticks):
    """What the cells hold behind ticks, all cells of one read before one is written."""
    left = list(held)
    for tick in ticks:
        read = list(left)
        for source, target in tick:
            left[target] = read[source]
    return left
