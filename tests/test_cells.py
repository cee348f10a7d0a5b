"""[4], [15]: contents, wishes, and what a wish needs."""

import itertools
import unittest

from tests.samples import ANYTHING, HUGE, NO_VALUES, TOP
from valuesmoved.cells import free_cells, holders, is_done, is_now, is_wish, missing, needed, wanters, wrong_cells


class IsNowTest(unittest.TestCase):
    def test_lengths(self):
        for many in (1, 2, 59, 60):
            self.assertIs(is_now([7] * many), True)
            self.assertIs(is_now(list(range(many))), True)
        for many in (0, 61, 62, 4000):
            self.assertIs(is_now([7] * many), False)

    def test_range(self):
        for item in (0, -1, TOP, -TOP, TOP - 1):
            self.assertIs(is_now([item]), True)
            self.assertIs(is_now([1, item]), True)
        for item in (TOP + 1, -TOP - 1, HUGE, -HUGE):
            self.assertIs(is_now([item]), False)
            self.assertIs(is_now([1, item]), False)

    def test_wrong_items(self):
        for item in NO_VALUES + [None]:
            with self.subTest(item=item):
                self.assertIs(is_now([item]), False)
                self.assertIs(is_now([1, 2, item]), False)
                self.assertIs(is_now([item, 2, 3]), False)

    def test_anything(self):
        for value in ANYTHING:
            with self.subTest(value=str(value)[:50]):
                self.assertIs(is_now(value), False)

    def test_other_kinds_of_many(self):
        for value in ((1, 2), "12", {"1": 2}, (1,), 1):
            self.assertIs(is_now(value), False)


class IsWishTest(unittest.TestCase):
    def test_lengths(self):
        for many in (1, 2, 60):
            now = [5] * many
            self.assertIs(is_wish(now, [None] * many), True)
            self.assertIs(is_wish(now, [5] * many), True)
            for other in (0, many - 1, many + 1, 61):
                self.assertIs(is_wish(now, [5] * other), False)
                self.assertIs(is_wish(now, [None] * other), False)

    def test_range(self):
        for item in (0, -1, TOP, -TOP, None):
            self.assertIs(is_wish([1, 2], [item, 2]), True)
            self.assertIs(is_wish([1, 2], [2, item]), True)

    def test_wrong_items(self):
        for item in NO_VALUES:
            with self.subTest(item=item):
                self.assertIs(is_wish([1], [item]), False)
                self.assertIs(is_wish([1, 2, 3], [1, None, item]), False)
                self.assertIs(is_wish([1, 2, 3], [item, None, 3]), False)

    def test_anything(self):
        for value in ANYTHING:
            with self.subTest(value=str(value)[:50]):
                self.assertIs(is_wish([1], value), isinstance(value, list) and value == [None])
                self.assertIs(is_wish([1, 2, 3], value), False)

    def test_other_kinds_of_many(self):
        for value in ((1, 2), "12", {"1": 2, "2": 1}, (None, None)):
            self.assertIs(is_wish([1, 2], value), False)


class CellsTest(unittest.TestCase):
    def test_example(self):
        now, wish = [1, 2, 2, 9], [2, 1, 2, None]
        found = [wrong_cells(now, wish), needed(now, wish), holders(now, 2), wanters(now, wish, 2),
                 missing(now, wish), missing(now, [2, 5, 2, 4])]
        self.assertEqual(found, [[0, 1], [1, 2], [1, 2], [0], None, 4])

    def test_wrong_and_free(self):
        now, wish = [5, 5, 0, -3, 0, 8], [5, None, None, 0, -3, 9]
        self.assertEqual(wrong_cells(now, wish), [3, 4, 5])
        self.assertEqual(free_cells(now, wish), [1, 2])
        self.assertEqual(wrong_cells([1], [2]), [0])
        self.assertEqual(wrong_cells([0], [None]), [])
        self.assertEqual(free_cells([0], [None]), [0])
        self.assertEqual(free_cells([0, 1], [0, 5]), [])

    def test_needed(self):
        self.assertEqual(needed([1, 2, 3, 4], [9, -5, 9, 4]), [-5, 9])
        self.assertEqual(needed([3, 1, 2], [1, 2, 3]), [1, 2, 3])
        # What only a right cell wants is not needed.
        self.assertEqual(needed([1, 2, 3], [1, 1, None]), [1])
        self.assertEqual(needed([1, 2, 3], [1, None, 3]), [])
        self.assertEqual(needed([1, 2], [TOP, -TOP]), [-TOP, TOP])

    def test_holders(self):
        self.assertEqual(holders([4, 4, 1, 4], 4), [0, 1, 3])
        self.assertEqual(holders([4, 4, 1, 4], 1), [2])
        self.assertEqual(holders([4, 4, 1, 4], 2), [])
        self.assertEqual(holders([TOP, -TOP], TOP), [0])
        self.assertEqual(holders([TOP, -TOP], -TOP), [1])
        self.assertEqual(holders([0] * 60, 0), list(range(60)))

    def test_wanters(self):
        now, wish = [1, 2, 2, 3, 2], [2, 2, 1, 2, None]
        self.assertEqual(wanters(now, wish, 2), [0, 3])
        self.assertEqual(wanters(now, wish, 1), [2])
        self.assertEqual(wanters(now, wish, 3), [])
        self.assertEqual(wanters(now, wish, 77), [])
        self.assertEqual(wanters([1, 2], [5, 5], 5), [0, 1])

    def test_missing(self):
        self.assertEqual(missing([1, 2, 3], [7, 6, 8]), 6)
        self.assertEqual(missing([1, 2, 3], [-2, 6, 8]), -2)
        self.assertEqual(missing([1, 0, 3], [0, -1, 0]), -1)
        self.assertEqual(missing([1, 2], [0, 2]), 0)
        self.assertIsNone(missing([1, 2, 3], [3, 1, 2]))
        self.assertIsNone(missing([1, 2, 3], [1, None, None]))
        # A free cell can hold a value that is needed.
        self.assertIsNone(missing([1, 9], [9, None]))
        self.assertEqual(missing([1, 8], [9, None]), 9)

    def test_done(self):
        self.assertIs(is_done([1, 2], [1, 2]), True)
        self.assertIs(is_done([1, 2], [None, 2]), True)
        self.assertIs(is_done([1, 2], [None, None]), True)
        self.assertIs(is_done([1, 2], [1, 1]), False)
        self.assertIs(is_done([0], [-1]), False)
        self.assertIs(is_done([0], [None]), True)

    def test_done_wish_needs_nothing(self):
        now, wish = [4, 4, 6], [4, None, 6]
        self.assertEqual([wrong_cells(now, wish), needed(now, wish), wanters(now, wish, 4), missing(now, wish)],
                         [[], [], [], None])

    def test_all_small_ones_by_the_words(self):
        for now in itertools.product(range(3), repeat=3):
            for wish in itertools.product([None, 0, 1, 2, 3], repeat=3):
                self.check_by_the_words(list(now), list(wish))

    def check_by_the_words(self, now, wish):
        free = [cell for cell in range(3) if wish[cell] is None]
        right = [cell for cell in range(3) if cell not in free and wish[cell] == now[cell]]
        wrong = [cell for cell in range(3) if cell not in free and cell not in right]
        asked = [value for value in range(4) if any(wish[cell] == value for cell in wrong)]
        absent = [value for value in asked if value not in now]
        self.assertEqual(free_cells(now, wish), free)
        self.assertEqual(wrong_cells(now, wish), wrong)
        self.assertEqual(needed(now, wish), asked)
        self.assertEqual(missing(now, wish), absent[0] if absent else None)
        self.assertIs(is_done(now, wish), not wrong)
        for value in range(5):
            self.assertEqual(holders(now, value), [cell for cell in range(3) if now[cell] == value])
            self.assertEqual(wanters(now, wish, value), [cell for cell in wrong if wish[cell] == value])


if __name__ == "__main__":
    unittest.main()
