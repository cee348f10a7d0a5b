"""[5], [8], [20]: ticks, and the fewest of them."""

import itertools
import random
import unittest

from tests.samples import ANYTHING, NO_TICKS, TOP, bad_ticks
from tests.searching import all_contents, all_wishes, is_done_within, least_of_wishes, tick_deeds
from tests.words import is_done_by, missing_ones, ticks_behind
from valuesmoved.errors import InvalidNumber, InvalidTicks, Missing, NoMoves
from valuesmoved.fewest import fewest_moves
from valuesmoved.ticks import after_ticks, does_ticks, fewest_ticks, is_ticks, some_ticks

WIDTHS = (1, 2, 3)
# Sixty values of thirty figures each.
LONG = [(-1) ** cell * (10 ** 29 + 10 ** 27 * cell + 7) for cell in range(60)]


def with_rings(lengths, *behind):
    """A content of rings of these lengths and of the items behind them, and the wish that turns the rings."""
    now, wish = [], []
    for length in lengths:
        ring = [100 + len(now) + cell for cell in range(length)]
        now += ring
        wish += ring[1:] + ring[:1]
    return now + [held for held, _ in behind], wish + [item for _, item in behind]


class IsTicksTest(unittest.TestCase):
    def test_lengths(self):
        for many in (0, 1, 199, 200):
            self.assertIs(is_ticks(2, 1, [[(0, 1)]] * many), True)
        for many in (201, 202, 4000):
            self.assertIs(is_ticks(2, 1, [[(0, 1)]] * many), False)

    def test_widths(self):
        tick = [(0, 1), (1, 2), (2, 3), (3, 0)]
        for width in WIDTHS:
            for many in (0, 1, 2, 3, 4):
                self.assertIs(is_ticks(4, width, [tick[:many]]), 1 <= many <= width)
                self.assertIs(is_ticks(4, width, [tick[:1], tick[:many]]), 1 <= many <= width)

    def test_all_pairs_of_moves(self):
        moves = list(itertools.product(range(-1, 4), repeat=2))
        right = [(a, b) for a, b in moves if a != b and 0 <= a <= 2 and 0 <= b <= 2]
        for first, second in itertools.product(moves, repeat=2):
            expected = first in right and second in right and first[1] != second[1]
            self.assertIs(is_ticks(3, 2, [[first, second]]), expected)
            self.assertIs(is_ticks(3, 1, [[first, second]]), False)

    def test_a_goal_once_in_a_tick(self):
        self.assertIs(is_ticks(3, 3, [[(0, 1), (2, 1)]]), False)
        self.assertIs(is_ticks(3, 3, [[(0, 1), (1, 0), (2, 1)]]), False)
        self.assertIs(is_ticks(3, 3, [[(0, 1)], [(2, 1)]]), True)
        # A source may be there several times.
        self.assertIs(is_ticks(4, 3, [[(0, 1), (0, 2), (0, 3)]]), True)

    def test_wrong_ticks(self):
        for item in NO_TICKS:
            with self.subTest(item=str(item)[:50]):
                self.assertIs(is_ticks(3, 2, [item]), False)
                self.assertIs(is_ticks(3, 2, [[(0, 1)], item]), False)
                self.assertIs(is_ticks(3, 2, [item, [(0, 1)]]), False)

    def test_anything(self):
        for value in ANYTHING + [value for value, _ in bad_ticks()]:
            with self.subTest(value=str(value)[:50]):
                self.assertIs(is_ticks(3, 2, value), isinstance(value, list) and value == [])

    def test_one_cell_and_sixty(self):
        self.assertIs(is_ticks(1, 3, []), True)
        self.assertIs(is_ticks(1, 3, [[(0, 0)]]), False)
        self.assertIs(is_ticks(1, 3, [[(0, 1)]]), False)
        self.assertIs(is_ticks(60, 3, [[(59, 0), (0, 59), (59, 58)]]), True)
        self.assertIs(is_ticks(60, 3, [[(60, 0)]]), False)
        self.assertIs(is_ticks(59, 3, [[(59, 0)]]), False)

    def test_cells_ahead_of_the_width(self):
        for cells, width in [(0, 1), (61, 2), (True, 3), (3, 0), (3, 4), (3, True), (3, None)]:
            self.assertRaises(InvalidNumber, is_ticks, cells, width, "anything")


class AfterTicksTest(unittest.TestCase):
    def test_example(self):
        now, wish = [1, 2, 3, 4, 9], [2, 1, 4, 3, None]
        self.assertEqual([fewest_ticks(now, wish, width) for width in (1, 2, 3)], [6, 2, 2])
        self.assertEqual(after_ticks(now, 2, [[(1, 0), (0, 1)]]), [2, 1, 3, 4, 9])
        self.assertIs(does_ticks(now, wish, 2, [[(1, 0), (0, 1)], [(3, 2), (2, 3)]]), True)
        found = [fewest_ticks([1, 2, 3, 4], [2, 3, 4, 1], 1), fewest_ticks([1, 2, 3, 4], [2, 3, 4, 1], 2),
                 fewest_ticks([1, 2, 3, 4], [2, 3, 4, 1], 3), fewest_ticks([1, 2, 3, 4, 9], [2, 3, 4, 1, None], 3)]
        self.assertEqual(found, [None, 3, 2, 2])

    def test_all_cells_are_read_before_one_is_written(self):
        self.assertEqual(after_ticks([1, 2, 3], 3, [[(0, 1), (1, 2), (2, 0)]]), [3, 1, 2])
        self.assertEqual(after_ticks([1, 2, 3], 1, [[(0, 1)], [(1, 2)], [(2, 0)]]), [1, 1, 1])
        for tick in tick_deeds(4, 3):
            self.assertEqual(after_ticks([5, 6, 7, 8], 3, [tick]), ticks_behind([5, 6, 7, 8], [tick]))

    def test_one_after_another(self):
        deeds = tick_deeds(3, 2)
        for ticks in itertools.product(deeds, repeat=2):
            self.assertEqual(after_ticks([5, 6, 7], 2, list(ticks)), ticks_behind([5, 6, 7], ticks))
        self.assertEqual(after_ticks([5, 6], 2, []), [5, 6])
        self.assertEqual(after_ticks([5, 6], 2, [[(0, 1), (1, 0)]] * 199), [6, 5])
        self.assertEqual(after_ticks([5, 6], 2, [[(0, 1), (1, 0)]] * 200), [5, 6])

    def test_too_many(self):
        with self.assertRaises(InvalidTicks) as caught:
            after_ticks([5, 6], 2, [[(0, 1), (1, 0)]] * 201)
        self.assertIsNone(caught.exception.index)

    def test_the_width_counts(self):
        tick = [(0, 1), (1, 2), (2, 0)]
        for width in (1, 2):
            with self.assertRaises(InvalidTicks) as caught:
                after_ticks([1, 2, 3], width, [tick[:width], tick])
            self.assertEqual(caught.exception.index, 1)
            self.assertIs(does_ticks([1, 2, 3], [3, 1, 2], width, [tick]), False)
        self.assertIs(does_ticks([1, 2, 3], [3, 1, 2], 3, [tick]), True)

    def test_a_new_list(self):
        now = [1, 2]
        self.assertIsNot(after_ticks(now, 1, []), now)


class DoesTicksTest(unittest.TestCase):
    def test_done_and_not(self):
        self.assertIs(does_ticks([1, 2], [2, 1], 2, [[(0, 1), (1, 0)]]), True)
        self.assertIs(does_ticks([1, 2], [2, 1], 1, [[(0, 1)], [(1, 0)]]), False)
        self.assertIs(does_ticks([1, 2], [2, None], 1, [[(1, 0)]]), True)
        self.assertIs(does_ticks([1, 2], [None, None], 1, []), True)
        self.assertIs(does_ticks([1, 2], [1, 2], 2, [[(0, 1), (1, 0)]]), False)
        self.assertIs(does_ticks([1, 2], [1, 2], 2, [[(0, 1), (1, 0)]] * 200), True)
        self.assertIs(does_ticks([1, 2], [1, 2], 2, [[(0, 1), (1, 0)]] * 202), False)
        self.assertIs(does_ticks([1, 2], [1, 3], 2, [[(0, 1)]]), False)

    def test_all_ticks_of_three_cells(self):
        deeds = tick_deeds(3, 3)
        for tick in deeds:
            for wish in all_wishes(3)[::5]:
                behind = ticks_behind([0, 1, 1], [tick])
                self.assertIs(does_ticks([0, 1, 1], wish, 3, [tick]), is_done_by(behind, wish))

    def test_anything(self):
        for value in ANYTHING + [value for value, _ in bad_ticks()]:
            with self.subTest(value=str(value)[:50]):
                self.assertIs(does_ticks([1, 2, 3], [1, None, 3], 2, value), isinstance(value, list) and value == [])


class FewestTicksTest(unittest.TestCase):
    def check(self, now, wish, width, number):
        self.assertEqual(fewest_ticks(now, wish, width), number, (now, wish, width))
        if number is not None:
            ticks = some_ticks(now, wish, width)
            self.assertEqual(len(ticks), number, (now, wish, width))
            self.assertIs(is_ticks(len(now), width, ticks), True)
            self.assertTrue(is_done_by(ticks_behind(now, ticks), wish), (now, wish, width, ticks))
            return
        absent = missing_ones(now, wish)
        with self.assertRaises(Missing if absent else NoMoves) as caught:
            some_ticks(now, wish, width)
        if absent:
            self.assertEqual(caught.exception.value, absent[0])

    def test_all_small_ones_by_search(self):
        for cells, width in itertools.product((1, 2, 3, 4), WIDTHS):
            for now in all_contents(cells):
                least = least_of_wishes(now, tick_deeds(cells, width))
                for wish in all_wishes(cells)[:: 1 if cells < 4 else 3]:
                    self.check(now, wish, width, least.get(tuple(wish)))

    def test_some_of_five_cells_by_search(self):
        for now in ([0, 1, 2, 3, 4], [0, 1, 2, 3, 3]):
            for width in (2, 3):
                least = least_of_wishes(now, tick_deeds(5, width))
                wishes = [wish for wish in itertools.product([None, *range(5)], repeat=5) if wish in least]
                for wish in wishes[::3]:
                    self.check(now, list(wish), width, least[wish])

    def test_nothing_to_do(self):
        for now, wish in [([1], [1]), ([1], [None]), ([1, 2], [None, 2]), ([3] * 60, [3] * 60), (LONG, [None] * 60)]:
            for width in WIDTHS:
                self.check(now, wish, width, 0)

    def test_missing(self):
        for width in WIDTHS:
            for now, wish, value in [([1], [2], 2), ([1, 2, 3], [2, 9, 8], 8), ([1, 2], [2, -TOP], -TOP)]:
                self.check(now, wish, width, None)
                with self.assertRaises(Missing) as caught:
                    some_ticks(now, wish, width)
                self.assertEqual(caught.exception.value, value)

    def test_only_one_move_at_a_time_can_be_stuck(self):
        self.check([1, 2], [2, 1], 1, None)
        self.check([1, 2], [2, 1], 2, 1)
        self.check([1, 2], [2, 1], 3, 1)
        self.check([1, 2, 3], [2, 3, 1], 1, None)
        self.check([1, 2, 3], [2, 3, 1], 2, 2)
        self.check([1, 2, 3], [2, 3, 1], 3, 1)

    def test_one_move_at_a_time(self):
        for now in all_contents(4):
            for wish in all_wishes(4)[::11]:
                self.assertEqual(fewest_ticks(now, wish, 1), fewest_moves(now, wish))

    def test_without_rings(self):
        for width, number in [(1, 59), (2, 30), (3, 20)]:
            self.check(LONG, [None, *LONG[:59]], width, number)
            self.check(LONG, [*LONG[1:], None], width, number)
            self.check(LONG, [LONG[30]] * 60, width, number)

    def test_sixty_cells_in_rings(self):
        turned = [*LONG[1:], LONG[0]]
        pairs = [LONG[cell ^ 1] for cell in range(60)]
        triples = [LONG[cell + 1 - 3 * (cell % 3 == 2)] for cell in range(60)]
        for wish, numbers in [(turned, [None, 59, 30]), (pairs, [None, 30, 30]), (triples, [None, 40, 20])]:
            for width, number in zip(WIDTHS, numbers):
                self.check(LONG, wish, width, number)

    def test_pairs_that_lend_their_room(self):
        for pairs, numbers in [(1, [3, 1, 1]), (3, [9, 3, 3]), (4, [12, 4, 3]), (5, [15, 5, 4]), (7, [21, 7, 6]),
                               (8, [24, 8, 6]), (29, [87, 29, 22])]:
            now, wish = with_rings([2] * pairs, (9, None))
            for width, number in zip(WIDTHS, numbers):
                self.check(now, wish, width, number)

    def test_rings_of_three_lend_no_room(self):
        for lengths, numbers in [([3, 3, 3, 3, 2], [19, 9, 5]), ([3] * 5 + [2] * 3, [29, 13, 8]),
                                 ([3] * 3 + [2] * 4, [24, 10, 6])]:
            now, wish = with_rings(lengths, (9, None))
            for width, number in zip(WIDTHS, numbers):
                self.check(now, wish, width, number)

    def test_pairs_with_back_cells_alone(self):
        for pairs, numbers in [(1, [4, 1, 1]), (4, [13, 4, 4]), (5, [16, 5, 4]), (9, [28, 9, 7]), (29, [88, 29, 22])]:
            now, wish = with_rings([2] * pairs, (9, 9), (9, 9))
            for width, number in zip(WIDTHS, numbers):
                self.check(now, wish, width, number)

    def test_rings_of_all_lengths(self):
        for lengths, behind, numbers in [
            ([3], [(9, None)], [4, 2, 1]), ([4], [(9, None)], [5, 3, 2]), ([5], [(9, None)], [6, 3, 2]),
            ([7], [(9, None)], [8, 4, 3]), ([2, 3, 4], [(9, None)], [12, 6, 4]), ([4, 4], [(9, None)], [10, 5, 4]),
            ([2, 5], [(9, None)], [9, 4, 3]), ([2, 5], [(9, 9), (9, 9)], [10, 5, 3]),
            ([3], [(9, 9), (9, 9)], [5, 2, 1]), ([4], [(9, 9), (9, 9)], [6, 3, 2]), ([5], [(9, 9), (9, 9)], [7, 4, 2]),
            ([3, 3], [(9, 9), (9, 9)], [9, 4, 2]), ([4, 4], [(9, 9), (9, 9)], [11, 6, 4]),
            ([3], [(9, 9), (8, 8)], [None, 2, 1]), ([5, 2], [(9, 9), (8, 8)], [None, 5, 3]),
            ([6, 3], [], [None, 7, 4]), ([4, 3], [(9, 100), (8, 101)], [10, 5, 3]),
        ]:
            now, wish = with_rings(lengths, *behind)
            for width, number in zip(WIDTHS, numbers):
                self.check(now, wish, width, number)

    def test_fewer_are_not_enough_by_search(self):
        tried = [([2, 2, 2], [(9, None)]), ([2, 2], [(9, 9), (9, 9)]), ([3, 2], [(9, None)]), ([4, 2], []),
                 ([2, 2, 3], []), ([4], [(9, 9), (9, 9)]), ([5], [(9, None)]), ([2, 2], [(9, 100), (8, 9)])]
        for (lengths, behind), width in itertools.product(tried, (2, 3)):
            now, wish = with_rings(lengths, *behind)
            number = fewest_ticks(now, wish, width)
            self.check(now, wish, width, number)
            if number <= 3:
                deeds = tick_deeds(len(now), width)
                self.assertFalse(is_done_within(now, wish, deeds, width, number - 1), (now, wish, width))

    def test_many_wishes_of_sixty_cells(self):
        chance = random.Random(7)
        for many in range(60):
            now = chance.sample(LONG, 50) + LONG[:10]
            wish = list(now)
            for cell in chance.sample(range(60), 2 + many % 58):
                wish[cell] = chance.choice([*now, None])
            moved = chance.sample(range(60), many)
            for cell, other in zip(moved, moved[1:]):
                wish[cell], wish[other] = wish[other], wish[cell]
            for width in WIDTHS:
                self.check(now, wish, width, fewest_ticks(now, wish, width))

    def test_the_width_ahead_of_what_is_missing(self):
        for width in (0, 4, True, None, "1"):
            for wish in ([2, 1], [2, 5]):
                self.assertRaises(InvalidNumber, some_ticks, [1, 2], wish, width)
                self.assertRaises(InvalidNumber, fewest_ticks, [1, 2], wish, width)

    def test_returned_lists_are_new(self):
        now, wish = [1, 2, 3, 4, 9], [2, 1, 4, 3, None]
        ticks = some_ticks(now, wish, 3)
        for tick in ticks:
            tick.append("more")
        self.assertNotIn("more", [move for tick in some_ticks(now, wish, 3) for move in tick])
        self.assertEqual(len({id(tick) for tick in ticks}), len(ticks))


if __name__ == "__main__":
    unittest.main()
