"""[5], [16]: steps, rows, and what stands in the cells behind them."""

import itertools
import unittest

from tests.samples import ANYTHING, NO_STEPS, bad_row
from tests.words import row_behind
from valuesmoved.rows import after_row, does, is_row, lost, same_rows, sources_of, turned

EXAMPLE = [("move", 0, 3), ("move", 1, 0), ("move", 3, 1)]


def all_steps(cells):
    return [(word, a, b) for word in ("move", "swap") for a in range(cells) for b in range(cells) if a != b]


class IsRowTest(unittest.TestCase):
    def test_lengths(self):
        for many in (0, 1, 2, 199, 200):
            self.assertIs(is_row(2, [("move", 0, 1)] * many), True)
        for many in (201, 202, 4000):
            self.assertIs(is_row(2, [("move", 0, 1)] * many), False)

    def test_right_steps(self):
        for step in all_steps(4):
            self.assertIs(is_row(4, [step]), True)
            self.assertIs(is_row(4, [("swap", 3, 0), step]), True)
        self.assertIs(is_row(60, [("move", 59, 0), ("swap", 0, 59)]), True)

    def test_greatest_cell(self):
        for cells in (2, 3, 59, 60):
            for word in ("move", "swap"):
                self.assertIs(is_row(cells, [(word, 0, cells - 1)]), True)
                self.assertIs(is_row(cells, [(word, cells - 1, 0)]), True)
                self.assertIs(is_row(cells, [(word, 0, cells)]), False)
                self.assertIs(is_row(cells, [(word, cells, 0)]), False)

    def test_wrong_steps(self):
        for item in NO_STEPS:
            with self.subTest(item=item):
                self.assertIs(is_row(3, [item]), False)
                self.assertIs(is_row(3, [("move", 0, 1), item]), False)
                self.assertIs(is_row(3, [item, ("move", 0, 1)]), False)

    def test_wrong_rows(self):
        for value, _ in bad_row():
            self.assertIs(is_row(3, value), False)

    def test_one_cell_alone(self):
        self.assertIs(is_row(1, []), True)
        for step in all_steps(2) + [("move", 0, 0), ("swap", 0, 0)]:
            self.assertIs(is_row(1, [step]), False)

    def test_a_tuple_is_no_row(self):
        self.assertIs(is_row(2, ()), False)
        self.assertIs(is_row(2, (("move", 0, 1),)), False)
        self.assertIs(is_row(2, ("move", 0, 1)), False)

    def test_anything(self):
        for value in ANYTHING:
            with self.subTest(value=str(value)[:50]):
                self.assertIs(is_row(3, value), isinstance(value, list) and value == [])


class BehindTest(unittest.TestCase):
    def test_example(self):
        now = [1, 2, 2, 9]
        self.assertEqual([after_row(now, EXAMPLE), sources_of(4, EXAMPLE), lost(now, EXAMPLE),
                          does(now, [2, 1, 2, None], EXAMPLE)],
                         [[2, 1, 2, 1], [1, 0, 2, 0], [9], True])
        self.assertEqual([same_rows(4, EXAMPLE, [("swap", 0, 1)], [0, 1, 2]),
                          same_rows(4, EXAMPLE, [("swap", 0, 1)], [3]), turned(4, EXAMPLE),
                          turned(3, [("swap", 0, 1), ("swap", 1, 2)])],
                         [True, False, None, [2, 0, 1]])

    def test_empty_row(self):
        self.assertEqual(after_row([3, 1], []), [3, 1])
        self.assertEqual(sources_of(1, []), [0])
        self.assertEqual(sources_of(60, []), list(range(60)))
        self.assertEqual(lost([3, 1], []), [])
        self.assertEqual(turned(3, []), [0, 1, 2])
        self.assertIs(does([3, 1], [3, None], []), True)
        self.assertIs(does([3, 1], [1, None], []), False)
        self.assertIs(same_rows(2, [], [], [0, 1]), True)

    def test_moves_and_swaps(self):
        self.assertEqual(after_row([1, 2, 3], [("move", 0, 2)]), [1, 2, 1])
        self.assertEqual(after_row([1, 2, 3], [("swap", 0, 2)]), [3, 2, 1])
        self.assertEqual(after_row([1, 2, 3], [("swap", 2, 0), ("move", 0, 1)]), [3, 3, 1])
        self.assertEqual(sources_of(3, [("move", 2, 0), ("swap", 0, 1)]), [1, 2, 2])

    def test_all_short_rows_by_the_words(self):
        rows = [list(row) for many in (0, 1, 2) for row in itertools.product(all_steps(3), repeat=many)]
        for row in rows:
            sources = row_behind([0, 1, 2], row)
            self.assertEqual(sources_of(3, row), sources)
            for now in ([4, 5, 6], [4, 5, 4], [7, 7, 7]):
                behind = row_behind(now, row)
                self.assertEqual(after_row(now, row), behind)
                self.assertEqual(after_row(now, row), [now[cell] for cell in sources])
                gone = [value for value in (4, 5, 6, 7) if value in now and value not in behind]
                self.assertEqual(lost(now, row), gone)

    def test_lost(self):
        self.assertEqual(lost([9, 3, 5], [("move", 1, 0), ("move", 1, 2)]), [5, 9])
        self.assertEqual(lost([9, 3, 9], [("move", 1, 0)]), [])
        self.assertEqual(lost([-2, 4], [("move", 1, 0)]), [-2])
        self.assertEqual(lost([1, 2], [("swap", 0, 1)]), [])
        # Lost for some time, but none behind the whole row.
        self.assertEqual(lost([1, 2, 9], [("move", 0, 2), ("move", 1, 0), ("move", 2, 1)]), [9])

    def test_same_rows(self):
        there = [("move", 0, 1)]
        back = [("move", 1, 0)]
        self.assertIs(same_rows(3, there, back, []), True)
        self.assertIs(same_rows(3, there, back, [2]), True)
        self.assertIs(same_rows(3, there, back, [0]), False)
        self.assertIs(same_rows(3, there, back, [1]), False)
        self.assertIs(same_rows(3, there, back, [1, 2]), False)
        self.assertIs(same_rows(3, there, back, [0, 1, 2]), False)
        self.assertIs(same_rows(3, [("swap", 0, 1), ("swap", 1, 0)], [], [0, 1, 2]), True)
        self.assertIs(same_rows(3, [("swap", 0, 1)], [("swap", 1, 0)], [0, 1, 2]), True)
        self.assertIs(same_rows(1, [], [], [0]), True)

    def test_does(self):
        self.assertIs(does([1, 2], [2, 1], [("swap", 0, 1)]), True)
        self.assertIs(does([1, 2], [2, 1], [("move", 0, 1)]), False)
        self.assertIs(does([1, 2], [None, 1], [("move", 0, 1)]), True)
        self.assertIs(does([1, 2], [None, None], [("move", 0, 1)]), True)
        self.assertIs(does([1, 2], [1, 2], [("swap", 0, 1)]), False)
        self.assertIs(does([1, 2], [1, 3], [("swap", 0, 1)]), False)
        # Right at first, and right again.
        self.assertIs(does([1, 2], [1, 2], [("swap", 0, 1)] * 200), True)
        self.assertIs(does([1, 2], [1, 2], [("swap", 0, 1)] * 202), False)

    def test_does_of_anything(self):
        for value in ANYTHING + [value for value, _ in bad_row()]:
            with self.subTest(value=str(value)[:50]):
                self.assertIs(does([1, 2, 3], [1, None, 3], value), isinstance(value, list) and value == [])

    def test_turned(self):
        self.assertEqual(turned(2, [("swap", 0, 1)]), [1, 0])
        self.assertEqual(turned(1, []), [0])
        self.assertIsNone(turned(2, [("move", 0, 1)]))
        self.assertIsNone(turned(3, [("swap", 0, 2), ("move", 1, 2)]))
        for row in itertools.product(all_steps(3), repeat=3):
            back = turned(3, list(row))
            behind = after_row([4, 5, 6], list(row))
            if sorted(behind) == [4, 5, 6]:
                self.assertEqual([behind[cell] for cell in back], [4, 5, 6])
            else:
                self.assertIsNone(back)


if __name__ == "__main__":
    unittest.main()
