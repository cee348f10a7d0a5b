"""[11], [26]: how many source lists cost how many moves."""

import itertools
import math
import unittest

from tests.samples import HUGE, TOP, bad_cells, bad_number
from tests.searching import distances, move_deeds
from tests.words import rings_by_the_words, wrong_ones
from valuesmoved.counts import count_barred, count_costing, count_maps, dearest, nth_costing, total_moves
from valuesmoved.errors import InvalidNumber, MoveError, TooLarge


def all_sources(cells):
    return list(itertools.product(range(cells), repeat=cells))


def costs_by_search(cells, free):
    """For each source list that can be done with so many free cells: the fewest moves."""
    least = {}
    for held, number in distances(range(cells + free), move_deeds(cells + free)).items():
        # What is done holds nothing that stood in a free cell.
        if max(held[:cells]) < cells:
            least[held[:cells]] = min(number, least.get(held[:cells], number))
    return least


class CountsTest(unittest.TestCase):
    def test_example(self):
        found = [count_maps(2, 2, 1), [count_costing(2, 1, number) for number in range(4)],
                 [count_costing(2, 0, number) for number in range(4)], count_barred(2), total_moves(2)]
        self.assertEqual(found, [1, [1, 2, 0, 1], [1, 2, 0, 0], 1, 5])
        found = [dearest(1), dearest(2), dearest(3), dearest(4), nth_costing(3, 1, 4, 0), nth_costing(3, 1, 4, 1)]
        self.assertEqual(found, [(0, 1), (3, 1), (4, 2), (6, 3), [1, 2, 0], [2, 0, 1]])

    def test_maps_by_going_through_all(self):
        for cells in (1, 2, 3, 4):
            now = list(range(cells))
            found = {}
            for sources in all_sources(cells):
                key = len(wrong_ones(now, sources)), len(rings_by_the_words(now, sources))
                found[key] = found.get(key, 0) + 1
            for key in itertools.product(range(cells + 2), repeat=2):
                self.assertEqual(count_maps(cells, *key), found.get(key, 0), (cells, key))

    def test_costs_by_search(self):
        for cells in (1, 2, 3, 4, 5):
            self.check_costs(cells, 0, costs_by_search(cells, 0))
            self.check_costs(cells, 1, costs_by_search(cells, 1))
        self.check_costs(3, 2, costs_by_search(3, 2))

    def check_costs(self, cells, free, least):
        for number in range(2 * cells + 2):
            expected = sorted(list(sources) for sources, cost in least.items() if cost == number)
            self.assertEqual(count_costing(cells, free, number), len(expected), (cells, free, number))
            some = 1 if cells < 5 else 97
            found = [nth_costing(cells, free, number, index) for index in range(0, len(expected), some)]
            self.assertEqual(found, expected[::some])
            self.assertEqual(nth_costing(cells, free, number, len(expected) - 1) if expected else None,
                             expected[-1] if expected else None)
            for beyond in (len(expected), len(expected) + 1, HUGE):
                self.assertRaises(InvalidNumber, nth_costing, cells, free, number, beyond)
        if free == 0:
            self.assertEqual(count_barred(cells), cells ** cells - len(least))
        else:
            costs = list(least.values())
            self.assertEqual(dearest(cells), (max(costs), costs.count(max(costs))))
            self.assertEqual(total_moves(cells), sum(costs))

    def test_more_free_cells_cost_the_same(self):
        for cells, number in [(1, 0), (4, 6), (30, 33), (60, 61)]:
            for free in (2, 60, TOP, HUGE):
                self.assertEqual(count_costing(cells, free, number), count_costing(cells, 1, number))
        self.assertEqual(nth_costing(4, HUGE, 6, 2), nth_costing(4, 1, 6, 2))

    def test_maps_add_up(self):
        for cells in (1, 2, 7, 20):
            found = {(wrong, ringed): count_maps(cells, wrong, ringed)
                     for wrong in range(cells + 1) for ringed in range(cells + 1)}
            self.assertEqual(sum(found.values()), cells ** cells)
            for wrong in range(cells + 1):
                self.assertEqual(sum(found[wrong, ringed] for ringed in range(cells + 1)),
                                 math.comb(cells, wrong) * (cells - 1) ** wrong)
            for number in range(2 * cells):
                self.assertEqual(count_costing(cells, 1, number),
                                 sum(many for key, many in found.items() if sum(key) == number))

    def test_all_numbers_of_moves_add_up(self):
        for cells in (1, 5, 6, 25, 60):
            costs = [count_costing(cells, 1, number) for number in range(cells + cells // 2 + 2)]
            self.assertEqual(sum(costs), cells ** cells)
            self.assertEqual(sum(number * many for number, many in enumerate(costs)), total_moves(cells))
            most = max(number for number, many in enumerate(costs) if many)
            self.assertEqual(dearest(cells), (most, costs[most]))
            barred = [many - count_costing(cells, 0, number) for number, many in enumerate(costs)]
            self.assertEqual(sum(barred), count_barred(cells))
            self.assertGreaterEqual(min(barred), 0)

    def test_sixty_cells(self):
        pairs = math.factorial(60) // (2 ** 30 * math.factorial(30))
        self.assertEqual(count_maps(60, 60, 30), pairs)
        self.assertEqual(dearest(60), (90, pairs))
        self.assertEqual(dearest(59), (88, math.factorial(59) // (3 * 2 ** 28 * math.factorial(28))))
        self.assertEqual(count_barred(60), math.factorial(60) - 1)
        self.assertEqual([count_maps(60, 0, 0), count_maps(60, 1, 0), count_maps(60, 2, 1)], [1, 60 * 59, 30 * 59])
        self.assertEqual(count_costing(60, 0, 90), 0)
        self.assertEqual(count_costing(60, 1, 90), pairs)
        self.assertEqual(count_costing(60, 0, 1), 60 * 59)
        # One ring of all cells, or what has no ring.
        self.assertEqual(count_maps(60, 60, 1) - math.factorial(59),
                         sum(math.comb(60, many) * math.factorial(many - 1) * count_maps(60 - many, 60 - many, 0)
                             for many in range(2, 59)))

    def test_numbers_that_no_source_list_has(self):
        for cells in (1, 2, 5, 59, 60):
            for wrong, ringed in [(cells + 1, 0), (cells + 1, 1), (61, 0), (0, 1), (1, 1), (cells, cells // 2 + 1),
                                  (cells, cells), (HUGE, 0), (0, HUGE), (HUGE, HUGE), (cells, TOP), (HUGE, HUGE // 2)]:
                self.assertEqual(count_maps(cells, wrong, ringed), 0, (cells, wrong, ringed))
            for number in (cells + cells // 2 + 1, 91, 120, TOP, HUGE):
                for free in (0, 1, HUGE):
                    self.assertEqual(count_costing(cells, free, number), 0)
        self.assertEqual(count_maps(1, 1, 0), 0)
        self.assertRaises(InvalidNumber, nth_costing, 5, 1, HUGE, 0)

    def test_one_cell(self):
        self.assertEqual([count_maps(1, 0, 0), count_costing(1, 0, 0), count_costing(1, 1, 0), count_barred(1),
                          dearest(1), total_moves(1), nth_costing(1, 0, 0, 0)], [1, 1, 1, 0, (0, 1), 0, [0]])


class ErrorsTest(unittest.TestCase):
    def raised(self, function, *arguments):
        with self.assertRaises(MoveError) as caught:
            function(*arguments)
        return type(caught.exception), vars(caught.exception)

    def test_too_large_ahead_of_a_great_index(self):
        for cells in (6, 7, 60):
            for index in (0, 1, 10 ** 20, HUGE):
                for free, number in [(0, 0), (1, 3), (HUGE, HUGE)]:
                    self.assertEqual(self.raised(nth_costing, cells, free, number, index), (TooLarge, {"limit": 5}))

    def test_too_large_behind_all_parameters(self):
        for wrong, _ in bad_number():
            for arguments in [(60, wrong, 0, 0), (60, 0, wrong, 0), (60, 0, 0, wrong), (3, wrong, 0, HUGE)]:
                self.assertEqual(self.raised(nth_costing, *arguments)[0], InvalidNumber)
        for wrong, _ in bad_cells():
            self.assertEqual(self.raised(nth_costing, wrong, 0, 0, HUGE)[0], InvalidNumber)

    def test_each_parameter(self):
        for wrong, _ in bad_number():
            for function, arguments in [(count_maps, (3, wrong, 0)), (count_maps, (3, 0, wrong)),
                                        (count_maps, (3, HUGE, wrong)), (count_costing, (3, wrong, 0)),
                                        (count_costing, (3, 0, wrong))]:
                self.assertEqual(self.raised(function, *arguments)[0], InvalidNumber)


if __name__ == "__main__":
    unittest.main()
