"""How moves, none of which leads from memory to memory, are put in sequence.

Nothing is missing, and each needed value is held by one cell only.
"""

from valuesmoved.unchecked import rounds, wanting, wrong_in

IN_REGISTER = "r"
IN_MEMORY = "m"


def closed_in(now, wish):
    """The ascending list of all closed rows."""
    holder = {item: cell for cell, item in enumerate(now)}
    return rounds({cell: holder[wish[cell]] for cell in wrong_in(now, wish)})


def opening(now, wish, kinds, way):
    """The place in a closed row of the first cell whose value is kept without a move more, or None."""
    for at, cell in enumerate(way):
        others = _others(now, wish, way, cell)
        if _is_kept(kinds, cell, way[at - 1], others):
            return at
    return None


class KindMoves:
    """Moves that lead towards a wish, done one after another on a content, with two idle registers between."""

    def __init__(self, now, wish, kinds, idle):
        self.now = list(now)
        self.wish = list(wish)
        self.kinds = kinds
        self.idle = list(idle)
        self.held = list(now)
        self.row = []

    def write_all(self):
        """Makes all wrong cells right."""
        wrong = wrong_in(self.now, self.wish)
        for value in wanting(self.now, self.wish):
            holder = self.now.index(value)
            if holder not in wrong:
                self.hand_on(holder)
        for way in closed_in(self.now, self.wish):
            self.go_round(way)

    def hand_on(self, cell):
        """Writes all cells that want what this cell holds, so that it can be written itself."""
        value = self.now[cell]
        others = wanting(self.now, self.wish).get(value, [])
        for other in others:
            self.hand_on(other)
        self.give(value, others, self.idle[0])

    def go_round(self, way):
        """Writes all cells of a closed row, and all that wait for them."""
        for cell in way:
            for other in _others(self.now, self.wish, way, cell):
                self.hand_on(other)
        at = opening(self.now, self.wish, self.kinds, way) or 0
        first, last = way[at], way[at - 1]
        self.give(self.now[first], _others(self.now, self.wish, way, first), self.idle[0])
        if self.source_of(self.now[first], last, first) is None:
            self.move(first, self.idle[0])
        # From here on the first register keeps what the last cell wants, so others pass through the second one.
        for cell in [*way[at:], *way[:at]]:
            self.give(self.wish[cell], wanting(self.now, self.wish)[self.wish[cell]], self.idle[1])

    def give(self, value, cells, between):
        """Writes the value in those of the cells that lack it, registers first, and where it must through another."""
        lacking = [cell for cell in cells if self.held[cell] != value]
        first = [cell for cell in lacking if self.kinds[cell] == IN_REGISTER]
        then = [cell for cell in lacking if self.kinds[cell] == IN_MEMORY]
        for cell in [*first, *then]:
            if self.source_of(value, cell, None) is None:
                self.move(self.held.index(value), between)
            self.move(self.source_of(value, cell, None), cell)

    def source_of(self, value, target, but):
        """The first cell, but for one, that holds the value and from which a move may lead to the target, or None."""
        for cell, item in enumerate(self.held):
            if item == value and cell != but and IN_REGISTER in (self.kinds[cell], self.kinds[target]):
                return cell
        return None

    def move(self, source, target):
        """Does one move."""
        self.held[target] = self.held[source]
        self.row.append(("move", source, target))


def _others(now, wish, way, cell):
    """The wrong cells outside of a closed row that want what this cell of it holds."""
    return [other for other in wrong_in(now, wish) if wish[other] == now[cell] and other not in way]


def _is_kept(kinds, cell, before, others):
    """Whether these others, or the load between two cells in memory, keep the cell's value for the one before it."""
    if IN_REGISTER in [kinds[other] for other in others]:
        return True
    if kinds[cell] == IN_MEMORY and kinds[before] == IN_MEMORY:
        return True
    return len(others) > 0 and kinds[cell] == IN_REGISTER and kinds[before] == IN_REGISTER
