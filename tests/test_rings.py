"""[6], [17]: rings, spare cells, back cells."""

import itertools
import unittest

from tests.samples import ANYTHING, HUGE
from tests.words import back_by_the_words, rings_by_the_words, spare_by_the_words
from valuesmoved.errors import MoveError
from valuesmoved.rings import back_cells, is_ring, rings, spare_cells


class RingsTest(unittest.TestCase):
    def test_example(self):
        self.assertEqual(rings([1, 2, 3, 7, 7], [3, 1, 2, 7, 7]), [(0, 2, 1)])
        self.assertEqual(rings([1, 2, 2], [2, 1, 2]), [])
        self.assertEqual(rings([1, 2, 3], [2, 1, 1]), [])
        self.assertEqual(rings([4, 5, 6, 8], [5, 4, 8, 6]), [(0, 1), (2, 3)])
        now, wish = [1, 2, 3, 7, 7], [3, 1, 2, 7, 7]
        self.assertEqual([spare_cells(now, wish), back_cells(now, wish)], [[], [3, 4]])
        self.assertEqual(spare_cells([1, 2, 3, 9], [2, 1, 1, None]), [0, 1, 2, 3])
        self.assertIs(is_ring([1, 2], [2, 1], (1, 0)), False)

    def test_lengths(self):
        self.assertEqual(rings([1, 2], [2, 1]), [(0, 1)])
        self.assertEqual(rings([1, 2, 3], [2, 3, 1]), [(0, 1, 2)])
        self.assertEqual(rings([1, 2, 3, 4], [4, 3, 1, 2]), [(0, 3, 1, 2)])
        self.assertEqual(rings(list(range(60)), [*range(1, 60), 0]), [tuple(range(60))])
        self.assertEqual(rings(list(range(60)), [59, *range(59)]), [(0, *range(59, 0, -1))])
        pairs = [cell ^ 1 for cell in range(60)]
        self.assertEqual(rings(list(range(60)), pairs), [(cell, cell + 1) for cell in range(0, 60, 2)])

    def test_several(self):
        self.assertEqual(rings([1, 2, 3, 4, 5], [5, 3, 4, 2, 1]), [(0, 4), (1, 2, 3)])
        self.assertEqual(rings([1, 2, 3, 4], [4, 3, 2, 1]), [(0, 3), (1, 2)])
        # Right and free cells beside them, with values of their own.
        self.assertEqual(rings([8, 1, 9, 2, 3, 4], [8, 2, None, 1, 4, 3]), [(1, 3), (4, 5)])

    def test_none(self):
        self.assertEqual(rings([1], [1]), [])
        self.assertEqual(rings([1], [None]), [])
        self.assertEqual(rings([1, 2, 3], [1, 2, 3]), [])
        self.assertEqual(rings([1, 2, 3], [2, 3, 4]), [])
        self.assertEqual(rings([1, 2, 3], [2, 3, None]), [])

    def test_a_further_wanter(self):
        self.assertEqual(rings([1, 2, 5], [2, 1, 1]), [])
        self.assertEqual(rings([1, 2, 5], [2, 1, 2]), [])
        # A cell that is right wants nothing further, but it holds the value.
        self.assertEqual(rings([1, 2, 5], [2, 1, 5]), [(0, 1)])

    def test_a_further_holder(self):
        self.assertEqual(rings([1, 2, 1], [2, 1, 1]), [])
        self.assertEqual(rings([1, 2, 1], [2, 1, 7]), [])
        self.assertEqual(rings([1, 2, 2], [2, 1, 2]), [])

    def test_a_free_holder(self):
        self.assertEqual(rings([1, 2, 1], [2, 1, None]), [])
        self.assertEqual(rings([1, 2, 2], [2, 1, None]), [])
        self.assertEqual(rings([1, 2, 3], [2, 1, None]), [(0, 1)])

    def test_values_that_stand_twice_within(self):
        now, wish = [1, 1, 2, 2], [2, 2, 1, 1]
        self.assertEqual(rings(now, wish), [])
        for way in [(0, 2), (1, 3), (0, 2, 1, 3), (0, 3, 1, 2)]:
            self.assertIs(is_ring(now, wish, way), False)

    def test_a_way_into_a_ring(self):
        # Cell 0 wants what a cell of the way 1, 2 wants, too; cell 3 wants what it alone wants.
        self.assertEqual(rings([9, 1, 2, 4], [1, 2, 1, 9]), [])
        self.assertEqual(rings([9, 1, 2, 4], [4, 2, 1, 9]), [(0, 3), (1, 2)])

    def test_all_small_ones_by_the_words(self):
        for many in (1, 2, 3, 4):
            for now in itertools.product(range(many), repeat=many):
                # With other names of the values the same would be tried again.
                if all(item in now[:at] or item == len(set(now[:at])) for at, item in enumerate(now)):
                    for wish in itertools.product([None, *range(many)], repeat=many):
                        self.check_by_the_words(list(now), list(wish))

    def check_by_the_words(self, now, wish):
        self.assertEqual(rings(now, wish), rings_by_the_words(now, wish))
        self.assertEqual(spare_cells(now, wish), spare_by_the_words(now, wish))
        self.assertEqual(back_cells(now, wish), back_by_the_words(now, wish))


class IsRingTest(unittest.TestCase):
    def test_right_ones(self):
        self.assertIs(is_ring([1, 2], [2, 1], (0, 1)), True)
        self.assertIs(is_ring([1, 2, 3, 7, 7], [3, 1, 2, 7, 7], (0, 2, 1)), True)
        self.assertIs(is_ring([4, 5, 6, 8], [5, 4, 8, 6], (0, 1)), True)
        self.assertIs(is_ring([4, 5, 6, 8], [5, 4, 8, 6], (2, 3)), True)

    def test_it_begins_elsewhere(self):
        now, wish = [1, 2, 3], [3, 1, 2]
        for value in [(2, 1, 0), (1, 0, 2), (0, 1, 2)]:
            self.assertIs(is_ring(now, wish, value), False)
        self.assertIs(is_ring(now, wish, (0, 2, 1)), True)

    def test_a_list(self):
        self.assertIs(is_ring([1, 2], [2, 1], [0, 1]), False)
        self.assertIs(is_ring([1, 2], [2, 1], [(0, 1)]), False)

    def test_other_tuples(self):
        now, wish = [4, 5, 6, 8], [5, 4, 8, 6]
        others = [(), (0,), (0, 0), (0, 1, 0, 1), (0, 1, 0), (0, 1, 2, 3), (0, 2), (0, 3), (4, 5), (0, 4), (-1, 0),
                  (-4, -3), (False, True), (0, True), (False, 1), (None, 1), ("0", "1"), ([0], [1]), ((0, 1),),
                  ((0, 1), (2, 3)), (HUGE, 0), ({}, 1), (0, MoveError("a"))]
        for value in others:
            with self.subTest(value=value):
                self.assertIs(is_ring(now, wish, value), False)

    def test_anything(self):
        for value in ANYTHING:
            with self.subTest(value=str(value)[:50]):
                self.assertIs(is_ring([1, 2], [2, 1], value), isinstance(value, tuple) and value == (0, 1))
                self.assertIs(is_ring([1, 2], [1, 2], value), False)


class SpareAndBackTest(unittest.TestCase):
    def test_spare(self):
        self.assertEqual(spare_cells([1, 2, 3], [2, 1, 3]), [])
        self.assertEqual(spare_cells([1, 2, 3], [2, 1, None]), [2])
        self.assertEqual(spare_cells([1, 2, 3, 4], [2, 1, 4, 4]), [2])
        self.assertEqual(spare_cells([1, 2, 3], [1, 2, 3]), [])
        self.assertEqual(spare_cells([1, 2, 3], [1, None, None]), [1, 2])
        self.assertEqual(spare_cells([1, 2], [5, 2]), [0])
        self.assertEqual(spare_cells([0], [None]), [0])

    def test_back(self):
        self.assertEqual(back_cells([7, 7, 7], [7, 7, 7]), [0, 1, 2])
        self.assertEqual(back_cells([7, 7, 8, 8], [7, 7, 8, 8]), [0, 1, 2, 3])
        self.assertEqual(back_cells([1, 2, 3], [1, 2, 3]), [])
        # Neither a free cell nor a wrong one makes a right one a back cell.
        self.assertEqual(back_cells([7, 7], [7, None]), [])
        self.assertEqual(back_cells([7, 7, 8], [7, 8, 8]), [])
        self.assertEqual(back_cells([7, 7, 7], [7, None, 7]), [0, 2])
        self.assertEqual(back_cells([0, 0], [None, None]), [])


if __name__ == "__main__":
    unittest.main()
