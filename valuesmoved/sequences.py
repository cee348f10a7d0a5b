"""The sequences in which cells can be written, each once, and how many of them there are.

They are told by the cells that are left to be written and by a dict, above: it has, for a cell that wants what one
wrong cell alone holds, this holder. A holder must stand behind at least one of the cells that it is above of.

A list of numbers stands for some of these cells: item i tells in how many sequences of them none of their roots, which
are the topmost ones, is among the first i.
"""

from math import comb

from valuesmoved.unchecked import holding, rounds, wanting, wrong_in

# The numbers of one cell that need not wait for others.
ALONE = (1, 0)


def above_in(now, wish):
    """For each wrong cell whose value no right and no free cell holds: the first wrong cell that holds it."""
    wrong = wrong_in(now, wish)
    held = holding(now)
    above = {}
    for value, cells in wanting(now, wish).items():
        if all([cell in wrong for cell in held[value]]):
            for cell in cells:
                above[cell] = held[value][0]
    return above


def next_cells(left, above):
    """The ascending list of the cells that can be written first."""
    waiting = list(above.values())
    return [cell for cell in left if cell not in waiting]


def behind_cell(left, above, cell):
    """What is left, and the dict for it, if one of the cells that can be written first is written."""
    # The one above it waits for nobody else any more.
    held = above.get(cell)
    still = {other: holder for other, holder in above.items() if holder != held}
    return [other for other in left if other != cell], still


def next_numbers(left, above):
    """Yields each cell that can be written first, ascending, and how many sequences begin with it."""
    numbers = {}
    for cell in next_cells(left, above):
        # It makes no difference which one of those below the same cell comes first.
        held = above.get(cell)
        if held not in numbers:
            others, still = behind_cell(left, above, cell)
            numbers[held] = count_sequences(others, still)
        yield cell, numbers[held]


def count_sequences(left, above):
    """How many sequences of the cells left there are."""
    below = {cell: [] for cell in left}
    for cell, held in above.items():
        below[held].append(cell)
    roots = [cell for cell in left if cell not in above]
    found = _number(_forest(roots, below))
    for way in rounds(above):
        found = _beside(found, _round_number(way, below))
    _, number = found
    return number


def _number(numbers):
    """How many cells these numbers stand for, and in how many sequences these can be written."""
    return len(numbers) - 1, numbers[0]


def _beside(first, second):
    """The same for two parts, none of which waits for the other one."""
    cells, number = first
    more, others = second
    return cells + more, comb(cells + more, cells) * number * others


def _tree(cell, below):
    """The numbers of a cell and of all that stand below it."""
    others = _forest(below[cell], below)
    return list(ALONE) if len(others) == 1 else _behind_one(others)


def _forest(cells, below):
    """The numbers of some cells and of all that stand below them."""
    numbers = [1]
    for cell in cells:
        numbers = _together(numbers, _tree(cell, below))
    return numbers


def _together(first, second):
    """The numbers of two parts, none of which waits for the other one."""
    many = len(first) - 1
    cells = many + len(second) - 1
    numbers = [0] * (cells + 1)
    for ahead, ours in enumerate(first):
        for more, theirs in enumerate(second):
            if ours and theirs:
                mixed = comb(ahead + more, ahead) * comb(cells - ahead - more, many - ahead)
                numbers[ahead + more] += mixed * ours * theirs
    return numbers


def _behind_one(others):
    """The numbers of a cell that stands behind at least one root of the others, and of these."""
    return _from_place([others[0] - number for number in others])


def _ahead_of_all(others):
    """The numbers of a cell that stands ahead of all roots of the others, and of these."""
    return _from_place(others)


def _from_place(ways):
    """The numbers of a cell and others, if item i of the ways is for just i others ahead of it."""
    numbers = [0]
    for many in reversed(ways):
        numbers.append(numbers[-1] + many)
    return numbers[::-1]


def _round_number(way, below):
    """How many cells a way that goes round has with all below it, and in how many sequences these can be written."""
    # From each of these cells to one below it.
    down = way[::-1]
    others = []
    for cell, following in zip(down, [*down[1:], down[0]]):
        others.append(_forest([other for other in below[cell] if other != following], below))
    # The sequences in which the first cell need not wait, less those in which it does not; of these, those in which
    # the second one need not wait, less those in which it does not; and so on: all of them cannot but wait.
    total = 0
    sign = 1
    for at, numbers in enumerate(others):
        _, number = _beside(_number(numbers), _number(_opened(others, at)))
        total += sign * number
        sign = -sign
    return sum([len(numbers) for numbers in others]), total


def _opened(others, at):
    """The numbers of a way that goes round and those below it, but for those below one place, if the cell there need
    not wait, and the cells ahead of it stand ahead of all that are below them."""
    numbers = list(ALONE)
    for below in reversed(others[:at]):
        numbers = _ahead_of_all(_together(below, numbers))
    for below in reversed(others[at + 1:]):
        numbers = _behind_one(_together(below, numbers))
    return numbers
