"""Rings of wrong cells, and the cells that help to open them."""

from valuesmoved.checks import check_wish, is_way
from valuesmoved.unchecked import back_in, rings_in, spare_in


def rings(now, wish):
    """The ascending list of all rings."""
    check_wish(now, wish)
    return rings_in(now, wish)


def is_ring(now, wish, value):
    """Whether any value is a ring."""
    found = rings(now, wish)
    return is_way(value) and value in found


def spare_cells(now, wish):
    """The ascending list of the cells that are free, or wrong and in no ring."""
    return spare_in(now, wish, rings(now, wish))


def back_cells(now, wish):
    """The ascending list of the right cells whose value another right cell holds, too."""
    check_wish(now, wish)
    return back_in(now, wish)
