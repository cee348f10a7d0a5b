"""[13], [24]: the orders in which the wrong cells can be written."""

import inspect
import itertools
import math
import random
import unittest

from tests.samples import ANYTHING, HUGE, TOP, bad_order
from tests.searching import all_contents, all_wishes
from tests.words import missing_ones, orders_by_the_words, row_behind, twice_ones, wrong_ones
from valuesmoved.errors import HeldTwice, InvalidCell, InvalidNow, InvalidNumber, InvalidOrder, InvalidWish, Missing
from valuesmoved.errors import MoveError
from valuesmoved.orders import count_first, count_orders, is_order, nth_order, order_index, order_row, walk_orders
from valuesmoved.rings import rings

# Sixty values of thirty figures each.
LONG = [(-1) ** cell * (10 ** 29 + 10 ** 27 * cell + 7) for cell in range(60)]


def from_sources(sources):
    """A content of sixty values or fewer and the wish for it; None stands for a free cell."""
    now = LONG[:len(sources)]
    return now, [None if source is None else now[source] for source in sources]


def all_of(now, wish):
    return list(walk_orders(now, wish))


# Each function with what it takes behind the content and the wish.
RAISING = [(count_orders, ()), (nth_order, (0,)), (order_index, ([],)), (all_of, ()), (count_first, (0,)),
           (order_row, ([],))]


class Checks(unittest.TestCase):
    def raised(self, function, *arguments):
        with self.assertRaises(MoveError) as caught:
            function(*arguments)
        return type(caught.exception), getattr(caught.exception, "value", None)

    def check_row(self, now, wish, order):
        row = order_row(now, wish, order)
        self.assertEqual([step[0] for step in row], ["move"] * len(order))
        self.assertEqual([step[2] for step in row], order)
        held = now
        for step in row:
            self.assertEqual(held[step[1]], wish[step[2]], (now, wish, order, row))
            held = row_behind(held, [step])
        self.assertEqual(wrong_ones(held, wish), [])

    def check_all(self, now, wish):
        """Everything, by going through all sequences of the wrong cells."""
        expected = orders_by_the_words(now, wish)
        absent, twice = missing_ones(now, wish), twice_ones(now, wish)
        for cells in itertools.permutations(wrong_ones(now, wish)):
            self.assertIs(is_order(now, wish, list(cells)), list(cells) in expected, (now, wish, cells))
        if absent or twice:
            error = (Missing, absent[0]) if absent else (HeldTwice, twice[0])
            for function, behind in RAISING:
                self.assertEqual(self.raised(function, now, wish, *behind), error, (now, wish))
            return
        self.assertEqual(count_orders(now, wish), len(expected), (now, wish))
        self.assertEqual(all_of(now, wish), expected, (now, wish))
        for index, order in enumerate(expected):
            self.assertEqual(nth_order(now, wish, index), order)
            self.assertEqual(order_index(now, wish, order), index)
            self.check_row(now, wish, order)
        for beyond in (len(expected), len(expected) + 1, HUGE):
            self.assertRaises(InvalidNumber, nth_order, now, wish, beyond)
        for cell in range(len(now)):
            self.assertEqual(count_first(now, wish, cell), sum(order[:1] == [cell] for order in expected))


class SmallTest(Checks):
    def test_example(self):
        found = [count_orders([1, 2, 3], [2, 3, 3]), count_orders([1, 2, 3], [2, 1, 1]),
                 count_orders([1, 2, 9], [2, 1, None]), count_orders([7, 1, 2, 3], [1, 7, 7, 7])]
        self.assertEqual(found, [1, 1, 0, 6])
        found = [nth_order([1, 2, 3], [2, 1, 1], 0), is_order([1, 2, 3], [2, 1, 1], [0, 1, 2]),
                 all_of([1, 2, 3], [3, 1, 3]), count_first([7, 1, 2, 3], [1, 7, 7, 7], 2)]
        self.assertEqual(found, [[2, 0, 1], False, [[1, 0]], 3])
        self.assertEqual(order_row([1, 2, 3], [3, 1, 3], [1, 0]), [("move", 0, 1), ("move", 2, 0)])

    def test_all_small_ones(self):
        for cells in (1, 2, 3):
            for now in all_contents(cells):
                for wish in all_wishes(cells):
                    self.check_all(now, wish)

    def test_some_of_four_cells(self):
        for at, now in enumerate(all_contents(4)):
            for wish in all_wishes(4)[at:: 5]:
                self.check_all(now, wish)

    def test_all_source_lists_of_five_cells(self):
        for wish in itertools.islice(itertools.product(range(5), repeat=5), 3, 3125, 7):
            self.check_all([0, 1, 2, 3, 4], list(wish))

    def test_some_of_six_and_seven_cells(self):
        chance = random.Random(11)
        for cells, many in ((6, 120), (7, 25)):
            for _ in range(many):
                now = list(range(cells)) if chance.random() < 0.7 else chance.choices(range(cells), k=cells)
                self.check_all(now, chance.choices([*now, None], k=cells))

    def test_a_way_round_with_others_below_it(self):
        for sources in [[1, 0, 0], [1, 2, 0, 0], [1, 2, 0, 0, 1], [1, 2, 0, 0, 1, 2], [1, 0, 0, 2, 0],
                        [1, 0, 0, 2, 2, 3], [1, 2, 3, 0, 0, 2], [1, 2, 3, 4, 0, 0], [1, 2, 3, 0, 0, 4, 4],
                        [1, 0, 0, 4, 3, 3], [1, 0, 0, 4, 3, None]]:
            self.check_all(*from_sources(sources))

    def test_nothing_is_wrong(self):
        for now, wish in [([7], [7]), ([7], [None]), (LONG, LONG), (LONG, [None] * 60), ([1, 1], [1, None])]:
            self.assertEqual(count_orders(now, wish), 1)
            self.assertEqual(nth_order(now, wish, 0), [])
            self.assertRaises(InvalidNumber, nth_order, now, wish, 1)
            self.assertEqual(order_index(now, wish, []), 0)
            self.assertEqual(all_of(now, wish), [[]])
            self.assertEqual(order_row(now, wish, []), [])
            self.assertEqual(count_first(now, wish, 0), 0)
            self.assertIs(is_order(now, wish, []), True)
            self.assertIs(is_order(now, wish, [0]), False)

    def test_held_elsewhere(self):
        # A right or a free cell that holds the value, too, lets its holder be written at any time.
        self.assertEqual(all_of([1, 2, 2], [2, 1, 2]), [[1, 0]])
        self.assertEqual(all_of([1, 2, 2, 1], [2, 1, 2, None]), [[0, 1], [1, 0]])
        self.assertEqual(all_of([1, 2, 2, 1], [2, 1, None, 1]), [[0, 1], [1, 0]])


class SixtyTest(Checks):
    def check_indexes(self, sources, number):
        now, wish = from_sources(sources)
        self.assertEqual(count_orders(now, wish), number)
        first = [count_first(now, wish, cell) for cell in range(len(now))]
        self.assertEqual(sum(first), number)
        indexes = sorted({0, min(1, number - 1), number // 3, number // 2, max(0, number - 2), number - 1})
        found = [nth_order(now, wish, index) for index in indexes]
        self.assertEqual(found, sorted(found))
        for index, order in zip(indexes, found):
            self.assertIs(is_order(now, wish, order), True)
            self.assertEqual(order_index(now, wish, order), index)
            self.check_row(now, wish, order)
        self.assertEqual(self.raised(nth_order, now, wish, number), (InvalidNumber, None))
        walked = list(itertools.islice(walk_orders(now, wish), 3))
        self.assertEqual(walked, [nth_order(now, wish, index) for index in range(min(3, number))])
        # As many orders begin with a less cell as stand ahead of the first one with it.
        self.assertEqual(order_index(now, wish, found[-1]), sum(first[:found[-1][0]]) + first[found[-1][0]] - 1)

    def test_chains(self):
        self.check_indexes([None, *range(59)], 1)
        self.check_indexes([*range(1, 60), None], 1)
        self.check_indexes([cell if cell % 2 else (cell + 1) % 60 for cell in range(60)], math.factorial(30))
        # Thirty chains of one cell, fifteen of two, twelve of four: the last cell of each is free.
        self.check_indexes([None if cell % 3 == 2 else cell + 1 for cell in range(60)], math.factorial(40) // 2 ** 20)
        self.check_indexes([None if cell % 5 == 4 else cell + 1 for cell in range(60)], math.factorial(48) // 24 ** 12)

    def test_stars(self):
        # All want what one right cell holds, or what one wrong cell holds.
        self.check_indexes([0] * 60, math.factorial(59))
        self.check_indexes([1, 1, *[0] * 58], 58 * math.factorial(58))
        self.check_indexes([1, *[0] * 59], 59 * 58 // 2 * math.factorial(58))

    def test_a_way_round_with_a_single_way_in(self):
        self.check_indexes([*range(1, 59), 0, 0], 1)
        self.check_indexes([*range(1, 59), 0, 30], 1)

    def test_pairs_with_a_third_one(self):
        # Of three such cells only the one that is in no way round can begin.
        sources = [cell - cell % 3 + [1, 0, 0][cell % 3] for cell in range(60)]
        self.check_indexes(sources, math.factorial(60) // 6 ** 20)

    def test_many(self):
        chance = random.Random(17)
        for _ in range(6):
            sources = [chance.choice([*range(60), None]) for _ in range(60)]
            now, wish = from_sources(sources)
            if not rings(now, wish):
                self.check_indexes(sources, count_orders(now, wish))

    def test_rings_bar_all(self):
        for sources in ([*range(1, 60), 0], [1, 0, *[2] * 58], [*[59] * 57, 58, 57, 59], [1, 0, None, *range(2, 59)]):
            now, wish = from_sources(sources)
            self.assertEqual(count_orders(now, wish), 0)
            self.assertEqual(all_of(now, wish), [])
            self.assertEqual([count_first(now, wish, cell) for cell in range(60)], [0] * 60)
            self.assertEqual(self.raised(nth_order, now, wish, 0), (InvalidNumber, None))
            self.assertEqual(self.raised(order_index, now, wish, list(range(60))), (InvalidOrder, None))
            self.assertEqual(self.raised(order_row, now, wish, []), (InvalidOrder, None))

    def test_free_cells_that_hold_what_is_needed(self):
        now, wish = LONG[:59] + [LONG[0]], [*LONG[1:59], LONG[0], None]
        self.assertEqual(all_of(now, wish), [list(range(59))])
        wish = [*LONG[1:58], LONG[0], LONG[0], None]
        # Fifty-eight of them one after another, and the last one anywhere between.
        self.assertEqual(count_orders(now, wish), 59)


class WalkTest(Checks):
    def test_it_is_walked_step_by_step(self):
        self.assertTrue(inspect.isgeneratorfunction(walk_orders))
        walk = walk_orders(LONG, [LONG[0]] * 60)
        self.assertEqual(next(walk), list(range(1, 60)))
        self.assertEqual(next(walk), [*range(1, 58), 59, 58])

    def test_changes_change_nothing_that_comes_behind(self):
        now, wish = [7, 1, 2, 3], [1, 7, 7, 7]
        expected = orders_by_the_words(now, wish)
        found = []
        for order in walk_orders(now, wish):
            found.append(list(order))
            order.clear()
            now[len(found) % 4] = 7
            wish[:] = [None] * len(found)
        self.assertEqual(found, expected)

    def test_each_is_new(self):
        found = all_of([7, 1, 2, 3], [1, 7, 7, 7])
        self.assertEqual(len({id(order) for order in found}), 6)
        walk = walk_orders([7], [7])
        next(walk).append(5)
        self.assertEqual(all_of([7], [7]), [[]])

    def test_two_walks(self):
        first, second = walk_orders([7, 1, 2, 3], [1, 7, 7, 7]), walk_orders([7, 1, 2, 3], [1, 7, 7, 7])
        for one, other in zip(first, second):
            self.assertEqual(one, other)
            self.assertIsNot(one, other)


class ErrorsTest(Checks):
    def test_their_sequence(self):
        now, wish = [1, 2, 2, 3, 3], [9, 3, 3, 2, -8]
        for function, behind in RAISING:
            self.assertEqual(self.raised(function, now, wish, *behind), (Missing, -8))
            self.assertEqual(self.raised(function, now, [3, 3, 3, 2, 2], *behind), (HeldTwice, 2))
            self.assertEqual(self.raised(function, now, [3, 1, 1, 1, 1], *behind), (HeldTwice, 3))
            self.assertEqual(self.raised(function, now, wish[:4], *behind), (InvalidWish, None))
            self.assertEqual(self.raised(function, [], wish, *behind), (InvalidNow, None))

    def test_held_by_others_too(self):
        now = [1, 2, 2, 3, 3]
        self.assertEqual(self.raised(count_orders, now, [2, 1, 1, None, 3]), (HeldTwice, 2))
        self.assertEqual(self.raised(count_orders, now, [3, 2, 2, 1, 1]), (HeldTwice, 3))
        # One that is right, one that is free, or nobody who wants it: no error.
        for wish, number in [([2, 2, 1, None, 3], 1), ([2, None, 1, None, 3], 1), ([None, 1, 1, None, 1], 6),
                             ([3, 1, 1, 3, 1], 18)]:
            self.assertEqual(count_orders(now, wish), number)
            self.assertEqual(len(orders_by_the_words(now, wish)), number)

    def test_cells_and_indexes_ahead_of_what_is_missing(self):
        for wish in ([5, 1, 1], [2, 1, 1]):
            now = [1, 2, 2]
            for cell in (-1, 3, True, None, "0", [0]):
                self.assertEqual(self.raised(count_first, now, wish, cell), (InvalidCell, None))
            for index in (-1, True, None, "0", [0], -HUGE):
                self.assertEqual(self.raised(nth_order, now, wish, index), (InvalidNumber, None))

    def test_orders_and_great_indexes_behind_it(self):
        for wish, error in [([5, 1, 1], (Missing, 5)), ([2, 1, 1], (HeldTwice, 2))]:
            for index in (0, 1, HUGE):
                self.assertEqual(self.raised(nth_order, [1, 2, 2], wish, index), error)
            for function in (order_index, order_row):
                for order in (None, [], [0, 1, 2], [0, 0], "012", True):
                    self.assertEqual(self.raised(function, [1, 2, 2], wish, order), error)

    def test_no_orders(self):
        now, wish = [7, 1, 2, 3], [1, 7, 7, 7]
        for value, _ in bad_order():
            self.assertEqual(self.raised(order_index, now, wish, value), (InvalidOrder, None))
            self.assertEqual(self.raised(order_row, now, wish, value), (InvalidOrder, None))
            self.assertIs(is_order(now, wish, value), False)

    def test_errors_of_the_walk_come_with_the_call_or_the_first(self):
        for now, wish, error in [([1, 2], [5, 1], Missing), ([1, 2, 2], [2, 1, 1], HeldTwice), (None, [1], InvalidNow),
                                 ([1], None, InvalidWish)]:
            with self.assertRaises(error):
                next(walk_orders(now, wish))

    def test_is_order_has_none_of_them(self):
        for now, wish in [([1, 2, 2], [5, 1, 1]), ([1, 2, 2], [2, 1, 1]), ([1, 2], [2, 1])]:
            for value in ANYTHING:
                self.assertIs(is_order(now, wish, value), False)
        # Two wrong cells hold what a third one wants; what one of them loses stands in the other.
        self.assertIs(is_order([1, 2, 2], [2, 1, 1], [1, 0, 2]), True)
        self.assertIs(is_order([1, 2, 2], [2, 1, 1], [1, 2, 0]), False)
        self.assertIs(is_order([1, 2, 2], [2, 1, 1], [0, 1, 2]), False)

    def test_great_numbers(self):
        self.assertIs(is_order([TOP, -TOP, 5], [-TOP, TOP, TOP], [2, 0, 1]), True)
        self.assertEqual(all_of([TOP, -TOP, 5], [-TOP, TOP, TOP]), [[2, 0, 1]])


if __name__ == "__main__":
    unittest.main()
