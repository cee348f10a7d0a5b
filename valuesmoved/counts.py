"""How many source lists cost how many moves."""

from math import comb, factorial

from valuesmoved.checks import check_cells, check_few, check_number
from valuesmoved.errors import InvalidNumber
from valuesmoved.turning import cost_of

# Of so many cells all source lists are gone through.
MOST_LISTED = 5


def count_maps(cells, wrong, ringed):
    """How many source lists have so many wrong cells and so many rings."""
    check_cells(cells)
    check_number(wrong)
    check_number(ringed)
    if wrong > cells or 2 * ringed > wrong:
        return 0
    return _maps(cells, wrong, ringed, _turns(cells))


def count_costing(cells, free, number):
    """How many source lists need just so many moves with so many free cells beside."""
    check_cells(cells)
    check_number(free)
    check_number(number)
    return _costing(cells, free, number)


def count_barred(cells):
    """How many source lists cannot be done without a free cell."""
    check_cells(cells)
    # All permutations but the one without a wrong cell.
    return factorial(cells) - 1


def dearest(cells):
    """The most moves that a source list needs with a free cell, and how many need so many."""
    check_cells(cells)
    number = cells + cells // 2
    while _costing(cells, 1, number) == 0:
        number -= 1
    return number, _costing(cells, 1, number)


def total_moves(cells):
    """The sum of the fewest moves over all source lists, with a free cell."""
    check_cells(cells)
    wrong = cells * (cells - 1) * _power(cells, cells - 1)
    # Each way to go round is a ring as often as the other cells can do what they want among themselves.
    ringed = [comb(cells, many) * factorial(many - 1) * _power(cells - many, cells - many)
              for many in range(2, cells + 1)]
    return wrong + sum(ringed)


def nth_costing(cells, free, number, index):
    """The source list with this index, ascending, of those that need just so many moves."""
    check_cells(cells)
    check_number(free)
    check_number(number)
    check_number(index)
    check_few(cells, MOST_LISTED)
    found = [sources for sources in _source_lists(cells) if cost_of(sources, free) == number]
    if index >= len(found):
        raise InvalidNumber("there are not so many source lists")
    return found[index]


def _power(base, exponent):
    """The power of two numbers of cells, of which there are at most 60."""
    return base ** (int(exponent) % 65)


def _turns(cells):
    """For each number of cells up to this one and each of rings: how many ways these have to stand in so many rings."""
    found = [[1] + [0] * cells, [0] * (cells + 1)]
    for many in range(2, cells + 1):
        shorter, least = found[many - 1], found[many - 2]
        # The last cell stands behind one of the others in its ring, or in a ring of two with it.
        found.append([0] + [(many - 1) * (shorter[ringed] + least[ringed - 1]) for ringed in range(1, cells + 1)])
    return found


def _maps(cells, wrong, ringed, turns):
    """The same as count_maps, for numbers that are not too great."""
    return sum([comb(cells, many) * turns[many][ringed] * _ringless(cells - many, wrong - many)
                for many in range(wrong + 1)])


def _ringless(cells, wrong):
    """How many source lists have so many wrong cells and no ring."""
    # Those with rings are taken away: all ways to choose cells for them, with signs, leave 1 - many for each choice.
    return sum([comb(cells, many) * (1 - many) * _with_wrong(cells - many, wrong - many)
                for many in range(wrong + 1)])


def _with_wrong(cells, wrong):
    """How many source lists have so many wrong cells."""
    return comb(cells, wrong) * _power(cells - 1, wrong)


def _costing(cells, free, number):
    """The same as count_costing, for numbers that are known to be right."""
    turns = _turns(cells)
    found = 0
    for ringed in range(cells // 2 + 1):
        wrong = number - ringed
        if 2 * ringed <= wrong <= cells:
            found += _maps(cells, wrong, ringed, turns)
            # Without a free cell, a permutation with a wrong cell cannot be done.
            if free == 0 and wrong > 0:
                found -= comb(cells, wrong) * turns[wrong][ringed]
    return found


def _source_lists(cells):
    """The ascending list of all source lists."""
    found = [[]]
    for _ in range(cells):
        found = [[*sources, cell] for sources in found for cell in range(cells)]
    return found
