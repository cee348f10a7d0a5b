"""The orders in which all wrong cells can be written, each by just one move."""

from valuesmoved.checks import check_cell, check_nothing_missing, check_number, check_wish, is_integer
from valuesmoved.errors import HeldTwice, InvalidNumber, InvalidOrder
from valuesmoved.sequences import above_in, behind_cell, count_sequences, next_cells, next_numbers
from valuesmoved.unchecked import holding, rings_in, wanting, wrong_in
from valuesmoved.writing import as_row


def is_order(now, wish, value):
    """Whether any value is an order."""
    check_wish(now, wish)
    if not isinstance(value, list) or not all([is_integer(cell) for cell in value]):
        return False
    if sorted(value) != wrong_in(now, wish):
        return False
    held = list(now)
    for cell in value:
        if wish[cell] not in held:
            return False
        held[cell] = wish[cell]
    return True


def count_orders(now, wish):
    """How many orders there are."""
    check_wish(now, wish)
    _check_holders(now, wish)
    return count_sequences(wrong_in(now, wish), above_in(now, wish))


def nth_order(now, wish, index):
    """The order with this index, ascending."""
    check_wish(now, wish)
    check_number(index)
    _check_holders(now, wish)
    left, above = wrong_in(now, wish), above_in(now, wish)
    if index >= count_sequences(left, above):
        raise InvalidNumber("there are not so many orders")
    order = []
    ahead = 0
    while left:
        # The first cell with which more orders are counted than stand ahead of this one.
        for cell, number in next_numbers(left, above):
            if ahead + number > index:
                order.append(cell)
                break
            ahead += number
        left, above = behind_cell(left, above, order[-1])
    return order


def order_index(now, wish, order):
    """The index of the order, ascending."""
    check_wish(now, wish)
    _check_holders(now, wish)
    _check_order(now, wish, order)
    left, above = wrong_in(now, wish), above_in(now, wish)
    index = 0
    for cell in order:
        for other, number in next_numbers(left, above):
            if other == cell:
                break
            index += number
        left, above = behind_cell(left, above, cell)
    return index


def walk_orders(now, wish):
    """Yields all orders, ascending."""
    check_wish(now, wish)
    _check_holders(now, wish)
    left, above = wrong_in(now, wish), above_in(now, wish)
    # Without a ring, each way to begin can be gone on with.
    if not rings_in(now, wish):
        yield from _walk([], left, above)


def count_first(now, wish, cell):
    """How many orders begin with the cell."""
    check_wish(now, wish)
    check_cell(len(now), cell)
    _check_holders(now, wish)
    left, above = wrong_in(now, wish), above_in(now, wish)
    if cell not in next_cells(left, above):
        return 0
    left, above = behind_cell(left, above, cell)
    return count_sequences(left, above)


def order_row(now, wish, order):
    """A row of one move for each cell of the order, which writes the cells in this order."""
    check_wish(now, wish)
    _check_holders(now, wish)
    _check_order(now, wish, order)
    return as_row(now, [(cell, wish[cell]) for cell in order])


def _check_holders(now, wish):
    """Missing, then HeldTwice if two wrong cells alone hold a needed value; the parameters are known to be right."""
    check_nothing_missing(now, wish)
    wrong = wrong_in(now, wish)
    held = holding(now)
    for value in sorted(wanting(now, wish)):
        if len(held[value]) > 1 and all([cell in wrong for cell in held[value]]):
            raise HeldTwice(value)


def _check_order(now, wish, order):
    """InvalidOrder unless it is one."""
    if not is_order(now, wish, order):
        raise InvalidOrder("no order of the wrong cells")


def _walk(order, left, above):
    """Yields what the order is a beginning of, ascending."""
    if not left:
        yield order
    for cell in next_cells(left, above):
        longer = [*order, cell]
        others, holders = behind_cell(left, above, cell)
        yield from _walk(longer, others, holders)
