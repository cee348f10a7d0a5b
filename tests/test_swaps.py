"""[9], [21]: steps, closed ways and swaps."""

import itertools
import unittest

from tests.samples import ANYTHING, HUGE, TOP
from tests.searching import all_contents, all_wishes, least_of_wishes, move_deeds, swap_deeds
from tests.words import closed_by_the_words, is_done_by, missing_ones, row_behind
from valuesmoved.errors import InvalidNow, InvalidWish, Missing, MoveError, NoSwaps, TooLarge
from valuesmoved.rows import is_row
from valuesmoved.swaps import are_ways, fewest_steps, fewest_swaps, some_steps, some_swaps, some_ways

# Sixty values of thirty figures each.
LONG = [(-1) ** cell * (10 ** 29 + 10 ** 27 * cell + 7) for cell in range(60)]
# Nine wrong cells, of which two hold one value, and a tenth cell that is right.
NINE = [1, 1, 2, 3, 4, 5, 6, 7, 8, 9]
NINE_WISH = [2, 3, 1, 1, 5, 4, 7, 6, 1, 9]


def most_by_the_words(now, wish):
    """The greatest number of closed ways without a common cell."""
    def most(ways):
        if not ways:
            return 0
        first, *others = ways
        return max(most(others), 1 + most([way for way in others if not set(way) & set(first)]))
    return most(closed_by_the_words(now, wish))


def are_ways_by_the_words(now, wish, value):
    """Whether a list of tuples of integers is an ascending list of closed ways without a common cell."""
    cells = [cell for way in value for cell in way]
    closed = closed_by_the_words(now, wish)
    return value == sorted(set(value)) and len(set(cells)) == len(cells) and all(way in closed for way in value)


class StepsTest(unittest.TestCase):
    def test_example(self):
        found = [fewest_steps([1, 2, 3], [2, 1, 3]), fewest_steps([1, 2, 3], [2, 1, 1]),
                 fewest_steps([1, 2, 3, 4], [2, 3, 4, 1]), some_ways([1, 2, 3], [2, 1, 1])]
        self.assertEqual(found, [1, 2, 3, [(0, 1)]])
        found = [fewest_swaps([1, 1, 2, 2], [2, 2, 1, 1]), are_ways([1, 1, 2, 2], [2, 2, 1, 1], [(0, 2, 1, 3)]),
                 are_ways([1, 1, 2, 2], [2, 2, 1, 1], [(0, 2), (1, 3)])]
        self.assertEqual(found, [2, True, True])

    def test_all_small_ones_by_search(self):
        for cells in (1, 2, 3, 4):
            for now in all_contents(cells):
                least = least_of_wishes(now, move_deeds(cells) + swap_deeds(cells))
                for wish in all_wishes(cells):
                    self.check(now, wish, least.get(tuple(wish)))

    def test_some_of_five_cells_by_search(self):
        for at, now in enumerate(all_contents(5)):
            least = least_of_wishes(now, move_deeds(5) + swap_deeds(5))
            for wish in all_wishes(5)[at:: 101]:
                self.check(now, wish, least.get(tuple(wish)))

    def check(self, now, wish, number):
        self.assertEqual(fewest_steps(now, wish), number, (now, wish))
        if number is None:
            with self.assertRaises(Missing) as caught:
                some_steps(now, wish)
            self.assertEqual(caught.exception.value, missing_ones(now, wish)[0])
            return
        row = some_steps(now, wish)
        self.assertIs(is_row(len(now), row), True)
        self.assertEqual(len(row), number, (now, wish, row))
        self.assertTrue(is_done_by(row_behind(now, row), wish), (now, wish, row))

    def test_sixty_cells(self):
        self.check(LONG, [*LONG[1:], LONG[0]], 59)
        self.check(LONG, [LONG[cell ^ 1] for cell in range(60)], 30)
        self.check(LONG, [LONG[cell - cell % 5 + (cell + 2) % 5] for cell in range(60)], 48)
        self.check(LONG, [None, *LONG[:59]], 59)
        self.check(LONG, LONG, 0)
        self.check(LONG, [None] * 60, 0)
        self.check(LONG, [LONG[0]] * 60, 59)
        # A closed way, and fifty-eight cells that want what its cells hold.
        self.check(LONG, [LONG[1], *[LONG[0]] * 59], 59)
        self.check(LONG, [TOP, *LONG[:59]], None)

    def test_one_cell(self):
        self.check([1], [1], 0)
        self.check([1], [None], 0)
        self.check([1], [2], None)

    def test_no_scratch_is_needed(self):
        self.check([1, 2], [2, 1], 1)
        self.check([1, 2, 3], [2, 3, 1], 2)
        self.check([1, 2, 3], [2, 1, None], 1)
        self.check([1, 2, 3], [2, 1, 2], 2)


class WaysTest(unittest.TestCase):
    def check(self, now, wish):
        ways = some_ways(now, wish)
        self.assertIs(are_ways(now, wish, ways), True)
        self.assertTrue(are_ways_by_the_words(now, wish, ways))
        self.assertEqual(len(ways), most_by_the_words(now, wish), (now, wish))

    def test_as_many_as_possible(self):
        for cells in (1, 2, 3):
            for now in all_contents(cells):
                for wish in all_wishes(cells):
                    self.check(now, wish)
        for now in all_contents(4):
            for wish in all_wishes(4)[::3]:
                self.check(now, wish)

    def test_of_six_cells(self):
        for now in ([0, 0, 0, 1, 1, 1], [0, 0, 1, 1, 2, 2], [0, 1, 2, 0, 1, 2], [0, 0, 0, 1, 2, 3]):
            for wish in itertools.islice(itertools.product(range(3), repeat=6), 5, 729, 31):
                self.check(now, list(wish))

    def test_the_first_way_is_not_always_the_best(self):
        # Long ways through the first cell would leave fewer ways.
        for now, wish, many in [([1, 2, 3, 2, 1, 3], [2, 3, 1, 1, 3, 2], 3), ([1, 2, 1, 2], [2, 1, 2, 1], 2),
                                ([1, 2, 3, 1, 3], [2, 3, 1, 3, 1], 2)]:
            self.assertEqual(len(some_ways(now, wish)), many)
            self.check(now, wish)

    def test_eight_wrong_cells(self):
        for now, wish, many in [([1, 1, 1, 1, 2, 2, 2, 2], [2, 2, 2, 2, 1, 1, 1, 1], 4),
                                ([1, 1, 1, 2, 2, 2, 3, 3], [2, 2, 3, 1, 3, 3, 1, 2], 3),
                                ([1, 1, 2, 2, 3, 3, 4, 4], [2, 3, 3, 4, 4, 1, 1, 2], 3),
                                ([5, 5, 1, 2, 3, 4, 6, 7], [1, 2, 3, 4, 5, 5, 1, 1], 2)]:
            ways = some_ways(now, wish)
            self.assertEqual(len(ways), many)
            self.assertIs(are_ways(now, wish, ways), True)
            self.assertEqual(fewest_steps(now, wish), 8 - many)
            # A right cell and a free one more do not count, whatever they hold.
            self.assertEqual(some_ways([*now, 1, 5], [*wish, 1, None]), ways)

    def test_they_are_ascending(self):
        # Cell 0 leads into the way behind the other one.
        self.assertEqual(some_ways([1, 2, 3, 4, 5, 6], [5, 3, 2, 4, 6, 5]), [(1, 2), (4, 5)])
        self.assertEqual(some_ways([1, 2, 3, 4, 2, 1], [3, 1, 4, 3, 4, 2]), [(1, 5), (2, 3)])

    def test_are_ways_by_the_words(self):
        closed = [(0, 1), (0, 2), (0, 3), (1, 2), (1, 3), (2, 3), (0, 1, 2), (0, 2, 1, 3), (0, 1, 2, 3), (0, 3, 1, 2)]
        values = [list(value) for many in range(4) for value in itertools.permutations(closed, many)]
        for now, wish in [([1, 1, 2, 2], [2, 2, 1, 1]), ([1, 2, 3, 4], [2, 1, 4, 3]), ([1, 2, 3, 1], [2, 3, 1, 2]),
                          ([1, 2, 1, 2], [2, 1, 2, None]), ([1, 2, 1, 2], [2, 1, 1, 5]), ([1, 2, 3, 4], [2, 3, 4, 1])]:
            for value in values:
                self.assertIs(are_ways(now, wish, value), are_ways_by_the_words(now, wish, value), (now, wish, value))

    def test_wrong_values(self):
        now, wish = [4, 5, 6, 8, 9], [5, 4, 8, 6, 9]
        self.assertIs(are_ways(now, wish, [(0, 1), (2, 3)]), True)
        self.assertIs(are_ways(now, wish, [(2, 3)]), True)
        self.assertIs(are_ways(now, wish, []), True)
        for value in [((0, 1), (2, 3)), (0, 1), [[0, 1]], [(2, 3), (0, 1)], [(0, 1), (0, 1)], [(1, 0)], [(0,)], [()],
                      [(0, 1, 0, 1)], [(0, 0)], [(0, 2)], [(0, 1, 2, 3)], [(False, True)], [(0, True)], [("0", "1")],
                      [(0, 1), None], [(0, 1), (2, 4)], [(4, 4)], [(3, 4)], [(0, 5)], [(-5, -4)], [(-4, -5)],
                      [(0, HUGE)], [((0, 1),)], [([0], [1])], [(0, None)], [{}], {"0": 1}, "01", [0, 1],
                      [(0, MoveError("a"))]]:
            with self.subTest(value=value):
                self.assertIs(are_ways(now, wish, value), False)

    def test_anything(self):
        for value in ANYTHING:
            with self.subTest(value=str(value)[:50]):
                self.assertIs(are_ways([1, 2], [2, 1], value), isinstance(value, list) and value == [])
                self.assertIs(are_ways([1, 2], [2, 1], [value]), isinstance(value, tuple) and value == (0, 1))

    def test_a_value_can_pass_twice(self):
        now, wish = [1, 1, 2, 3], [2, 3, 1, 1]
        self.assertIs(are_ways(now, wish, [(0, 2, 1, 3)]), True)
        self.assertIs(are_ways(now, wish, [(0, 2)]), True)
        self.assertEqual(len(some_ways(now, wish)), 2)


class SwapsTest(unittest.TestCase):
    def check(self, now, wish, number):
        if number is None:
            self.assertRaises(NoSwaps, fewest_swaps, now, wish)
            self.assertRaises(NoSwaps, some_swaps, now, wish)
            return
        row = some_swaps(now, wish)
        self.assertEqual([fewest_swaps(now, wish), len(row)], [number, number], (now, wish))
        self.assertIs(is_row(len(now), row), True)
        self.assertEqual([step for step in row if step[0] != "swap"], [])
        self.assertTrue(is_done_by(row_behind(now, row), wish))

    def test_all_small_ones_by_search(self):
        for cells in (1, 2, 3, 4):
            for now in all_contents(cells):
                least = least_of_wishes(now, swap_deeds(cells))
                for wish in all_wishes(cells):
                    self.check(now, wish, None if None in wish else least.get(tuple(wish)))

    def test_all_of_five_cells_by_search(self):
        for now in all_contents(5):
            least = least_of_wishes(now, swap_deeds(5))
            for wish in set(itertools.permutations(now)):
                self.check(now, list(wish), least[wish])

    def test_sixty_cells(self):
        self.check(LONG, [*LONG[1:], LONG[0]], 59)
        self.check(LONG, [LONG[cell ^ 1] for cell in range(60)], 30)
        self.check(LONG, LONG, 0)
        self.check([3] * 60, [3] * 60, 0)
        # Right cells can hold one value, as many as there are.
        self.check([3] * 51 + LONG[:9], [3] * 51 + [*LONG[1:9], LONG[0]], 8)

    def test_no_swaps(self):
        for now, wish in [([1, 2], [2, None]), ([1, 2], [None, None]), ([1], [None]), ([1], [2]), ([1, 2], [2, 2]),
                          ([1, 2, 2], [2, 1, 1]), ([1, 2], [2, 3]), ([1, 2], [1, None]), ([1, 2, 3], [2, 2, 3])]:
            self.check(now, wish, None)


class TooLargeTest(unittest.TestCase):
    def raises(self, function, *arguments):
        with self.assertRaises(TooLarge) as caught:
            function(*arguments)
        self.assertEqual(caught.exception.limit, 8)

    def test_nine_wrong_cells_of_which_two_hold_one_value(self):
        for function in (fewest_steps, some_steps, some_ways):
            self.raises(function, NINE, NINE_WISH)
        self.assertIs(are_ways(NINE, NINE_WISH, [(0, 2), (1, 3), (4, 5), (6, 7)]), True)
        swapped = [2, 3, 1, 4, 1, 6, 5, 8, 7, 9]
        for function in (fewest_steps, some_steps, some_ways, fewest_swaps, some_swaps):
            self.raises(function, NINE, swapped)

    def test_sixty_of_which_two_hold_one_value(self):
        now = [LONG[5], *LONG[1:]]
        wish = [*now[1:], now[0]]
        for function in (fewest_steps, some_steps, some_ways, fewest_swaps, some_swaps):
            self.raises(function, now, wish)

    def test_eight_wrong_cells_are_not_too_many(self):
        for cell in range(9):
            wish = [now if at == cell else item for at, (now, item) in enumerate(zip(NINE, NINE_WISH))]
            number = 8 - len(some_ways(NINE, wish))
            self.assertEqual(fewest_steps(NINE, wish), number)
            row = some_steps(NINE, wish)
            self.assertEqual(len(row), number)
            self.assertTrue(is_done_by(row_behind(NINE, row), wish))

    def test_nine_of_which_a_right_or_free_one_holds_the_same(self):
        now = [1, 2, 3, 4, 5, 6, 7, 8, 9, 1, 1]
        for last in (1, None):
            wish = [2, 3, 4, 5, 6, 7, 8, 9, 1, 1, last]
            self.assertEqual(some_ways(now, wish), [(0, 1, 2, 3, 4, 5, 6, 7, 8)])
            self.assertEqual(fewest_steps(now, wish), 8)
            self.assertEqual(row_behind(now, some_steps(now, wish))[:10], wish[:10])
        self.assertEqual(fewest_swaps(now, [2, 3, 4, 5, 6, 7, 8, 9, 1, 1, 1]), 8)

    def test_nine_that_want_one_value_are_not_too_many(self):
        now = [1, 2, 3, 4, 5, 6, 7, 8, 9, 10]
        self.assertEqual(fewest_steps(now, [2, 1, 1, 1, 1, 1, 1, 1, 1, 1]), 9)

    def test_behind_the_other_errors(self):
        missed = [0, *NINE_WISH[1:]]
        self.assertRaises(Missing, some_steps, NINE, missed)
        # Where None would be returned, it is too large all the same.
        self.raises(fewest_steps, NINE, missed)
        self.raises(some_ways, NINE, missed)
        for wish in ([None, *NINE_WISH], [*NINE_WISH, None], [*NINE_WISH, 5]):
            for function in (fewest_swaps, some_swaps):
                self.assertRaises(NoSwaps, function, [*NINE, 4], [*wish, 3, 3][:11])
        for function in (fewest_steps, some_steps, some_ways, fewest_swaps, some_swaps):
            self.assertRaises(InvalidNow, function, [*NINE[:-1], None], NINE_WISH)
            self.assertRaises(InvalidWish, function, NINE, [*NINE_WISH[:-1], True])


if __name__ == "__main__":
    unittest.main()
