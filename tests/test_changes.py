"""[6], [7], [27]: what a changed wish or a further cell is worth."""

import itertools
import random
import unittest

from tests.samples import HUGE, TOP
from tests.searching import all_contents, all_wishes, least_of_wishes, move_deeds
from tests.words import rings_by_the_words
from valuesmoved.changes import best_drops, fewest_with, unlocking, with_copy, with_free
from valuesmoved.errors import InvalidCell, InvalidNow, InvalidNumber, InvalidWish, MoveError
from valuesmoved.fewest import fewest_moves
from valuesmoved.rings import rings

# Sixty values of thirty figures each.
LONG = [(-1) ** cell * (10 ** 29 + 10 ** 27 * cell + 7) for cell in range(60)]
# What no cell of the small contents holds or wants.
NOBODYS = 99


def replaced(wish, cell, item):
    return [item if other == cell else one for other, one in enumerate(wish)]


def dropped(wish, cells):
    return [None if cell in cells else item for cell, item in enumerate(wish)]


class ChangesTest(unittest.TestCase):
    def test_example(self):
        now, wish = [1, 2, 3], [2, 1, 3]
        found = [fewest_with(now, wish, 2, None), fewest_with(now, wish, 2, 1), with_free(now, wish, 0),
                 with_free(now, wish, 4), with_copy(now, wish, 1), best_drops(now, wish), unlocking(now, wish)]
        self.assertEqual(found, [3, 3, None, 3, 2, (1, [0, 1]), [0]])

    def test_small_ones_by_search(self):
        for cells in (1, 2, 3):
            for now in all_contents(cells):
                plain = least_of_wishes(now, move_deeds(cells))
                more = {held: least_of_wishes([*now, held], move_deeds(cells + 1), 1) for held in [*range(4), NOBODYS]}
                for wish in all_wishes(cells)[:: 1 if cells < 3 else 3]:
                    self.check_search(now, wish, plain, more)

    def check_search(self, now, wish, plain, more):
        for held, least in more.items():
            expected = least.get((*wish, None))
            if held == NOBODYS:
                for number in (1, 2, 60, HUGE):
                    self.assertEqual(with_free(now, wish, number), expected, (now, wish))
            else:
                self.assertEqual(with_copy(now, wish, held), expected, (now, wish, held))
        self.assertEqual(with_free(now, wish, 0), plain.get(tuple(wish)))
        for cell, item in itertools.product(range(len(now)), [None, *range(4)]):
            self.assertEqual(fewest_with(now, wish, cell, item), plain.get(tuple(replaced(wish, cell, item))))
        self.check_drops(now, wish, plain)

    def check_drops(self, now, wish, plain):
        numbers = {cell: plain.get(tuple(dropped(wish, [cell]))) for cell in range(len(now)) if wish[cell] is not None}
        best = min((number for number in numbers.values() if number is not None), default=None)
        cells = [cell for cell, number in numbers.items() if number == best and best is not None]
        self.assertEqual(best_drops(now, wish), (best, cells), (now, wish))

    def test_drops_of_four_cells_by_search(self):
        for now in ([0, 1, 2, 3], [0, 1, 2, 2], [0, 0, 1, 1]):
            plain = least_of_wishes(now, move_deeds(4))
            for wish in all_wishes(4)[::13]:
                self.check_drops(now, wish, plain)

    def test_unlocking_by_going_through_all(self):
        for cells in (1, 2, 3, 4):
            for now in all_contents(cells):
                for wish in all_wishes(cells)[:: 1 if cells < 4 else 7]:
                    if rings(now, wish):
                        self.check_unlocking(now, wish)
                    else:
                        self.assertEqual(unlocking(now, wish), [])
        for now, wish in [([1, 2, 3, 4, 5], [2, 1, 4, 5, 3]), ([5, 4, 3, 2, 1], [4, 5, 3, 1, 2]),
                          ([1, 2, 3, 4, 5], [5, 4, 3, 2, 1]), ([1, 2, 3, 4, 9], [3, 4, 1, 2, 1])]:
            self.check_unlocking(now, wish)

    def check_unlocking(self, now, wish):
        for many in range(len(now) + 1):
            for cells in itertools.combinations(range(len(now)), many):
                if not rings_by_the_words(now, dropped(wish, cells)):
                    self.assertEqual(unlocking(now, wish), list(cells), (now, wish))
                    return

    def test_unlocked_is_always_done(self):
        chance = random.Random(41)
        for _ in range(50):
            now = chance.sample(LONG, 60)
            wish = chance.sample(now, 60)
            cells = unlocking(now, wish)
            self.assertEqual(len(cells), len(rings(now, wish)))
            self.assertEqual(cells, sorted(set(cells)))
            self.assertEqual(rings(now, dropped(wish, cells)), [])

    def test_sixty_cells(self):
        pairs = [LONG[cell ^ 1] for cell in range(60)]
        self.assertEqual(unlocking(LONG, pairs), list(range(0, 60, 2)))
        self.assertEqual(best_drops(LONG, pairs), (59 + 29, list(range(60))))
        self.assertEqual([with_free(LONG, pairs, number) for number in (0, 1, 60)], [None, 90, 90])
        self.assertEqual([with_copy(LONG, pairs, value) for value in (LONG[0], LONG[1], 0)], [89, 89, 90])
        self.assertEqual(fewest_with(LONG, pairs, 59, None), 59 + 29)
        self.assertEqual(fewest_with(LONG, pairs, 59, LONG[59]), 59 + 29)
        self.assertEqual(fewest_with(LONG, pairs, 59, LONG[0]), 60 + 28)
        self.assertIsNone(fewest_with(LONG, pairs, 59, LONG[58]))
        self.assertIsNone(fewest_with(LONG, pairs, 59, 0))
        whole = [*LONG[1:], LONG[0]]
        self.assertEqual(unlocking(LONG, whole), [0])
        self.assertEqual(best_drops(LONG, whole), (59, list(range(60))))
        self.assertEqual(best_drops(LONG, LONG), (0, list(range(60))))
        self.assertEqual(best_drops([TOP] * 60, [-TOP] * 60), (None, []))

    def test_the_added_value_is_held_and_wanted_by_nobody(self):
        # Not even what stands at the limits of a content.
        now, wish = [TOP, -TOP, TOP - 1], [-TOP, TOP, None]
        self.assertEqual(with_free(now, wish, 1), 3)
        self.assertEqual(with_free([TOP, -TOP, 0], [-TOP, TOP, 0], 1), 3)
        for value in (TOP, TOP - 1, -TOP, 1 - TOP, 0, -1, 3):
            self.assertIsNone(with_free([1, 2], [value, 1], 1))
            self.assertIsNone(with_free([1, 2], [None, value], 60))

    def test_a_copy_brings_what_is_missing(self):
        self.assertIsNone(fewest_moves([1, 2], [5, 2]))
        self.assertEqual(with_copy([1, 2], [5, 2], 5), 1)
        self.assertIsNone(with_copy([1, 2], [5, 6], 5))
        self.assertEqual(with_copy([1, 2], [5, 5], 5), 2)
        self.assertEqual(with_copy([1, 2], [2, 1], 3), 3)
        self.assertEqual(with_copy([1, 2], [2, 1], 2), 2)
        self.assertEqual(with_copy([1], [1], TOP), 0)

    def test_no_cell_to_drop(self):
        self.assertEqual(best_drops([1], [None]), (None, []))
        self.assertEqual(best_drops([1, 2], [None, None]), (None, []))
        self.assertEqual(best_drops([1], [1]), (0, [0]))
        self.assertEqual(best_drops([1], [2]), (0, [0]))
        self.assertEqual(best_drops([1, 2], [2, None]), (0, [0]))
        self.assertEqual(best_drops([1, 2], [9, 8]), (None, []))
        self.assertEqual(best_drops([1, 2, 3], [9, 8, None]), (None, []))

    def test_changes_that_change_nothing(self):
        for now, wish in [([1, 2, 3], [2, 1, 3]), ([1, 2, 2], [2, 1, None]), (LONG, [*LONG[1:], None])]:
            for cell, item in enumerate(wish):
                self.assertEqual(fewest_with(now, wish, cell, item), fewest_moves(now, wish))


class ErrorsTest(unittest.TestCase):
    def raised(self, function, *arguments):
        with self.assertRaises(MoveError) as caught:
            function(*arguments)
        return type(caught.exception)

    def test_their_sequence(self):
        now, wish = [1, 2], [2, 1]
        for cell in (-1, 2, True, None, "0", HUGE):
            self.assertEqual(self.raised(fewest_with, now, wish, cell, "x"), InvalidCell)
            self.assertEqual(self.raised(fewest_with, now, [1], cell, "x"), InvalidWish)
            self.assertEqual(self.raised(fewest_with, [], [1], cell, "x"), InvalidNow)
        for item in (True, "1", TOP + 1, -TOP - 1, [1], HUGE):
            self.assertEqual(self.raised(fewest_with, now, wish, 0, item), InvalidNumber)
            self.assertEqual(self.raised(with_copy, now, wish, item), InvalidNumber)
        self.assertEqual(self.raised(with_copy, now, wish, None), InvalidNumber)
        for number in (-1, True, None, "1"):
            self.assertEqual(self.raised(with_free, now, wish, number), InvalidNumber)

    def test_missing_values_are_no_errors(self):
        self.assertIsNone(fewest_with([1, 2], [2, 5], 0, 1))
        self.assertEqual(unlocking([1, 2, 3], [2, 1, 5]), [0])
        self.assertEqual(fewest_with([1, 2], [2, 5], 1, 2), 1)


if __name__ == "__main__":
    unittest.main()
