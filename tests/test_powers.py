"""[7], [11], [12], [25]: source lists that are done again and again."""

import itertools
import math
import random
import unittest

from tests.samples import HUGE, TOP
from tests.searching import distances, move_deeds
from valuesmoved.errors import InvalidNumber, InvalidSources, MoveError
from valuesmoved.fewest import fewest_moves
from valuesmoved.powers import fewest_for, index_and_period, kept_cells, power_of, same_turns, turns_back

SQUARE = [1, 2, 3, 0, 0]


def all_sources(cells):
    return [list(sources) for sources in itertools.product(range(cells), repeat=cells)]


def turned_once(held, sources):
    return [held[source] for source in sources]


def first_turns(sources, many):
    """The source lists of 0, 1 .. turns, one after another."""
    found = [list(range(len(sources)))]
    while len(found) < many:
        found.append(turned_once(found[-1], sources))
    return found


def index_and_period_by_turning(sources):
    found = []
    held = list(range(len(sources)))
    while held not in found:
        found.append(held)
        held = turned_once(held, sources)
    return found.index(held), len(found) - found.index(held)


def rounds_of(*lengths):
    """A source list that goes round in ways of these lengths."""
    sources = []
    for length in lengths:
        first = len(sources)
        sources += [*range(first + 1, first + length), first]
    return sources


class PowersTest(unittest.TestCase):
    def test_example(self):
        found = [power_of(SQUARE, 2), index_and_period(SQUARE), kept_cells(SQUARE, 7), turns_back(SQUARE),
                 turns_back([1, 2, 0]), power_of([1, 2, 0], 10 ** 30)]
        self.assertEqual(found, [[2, 3, 0, 1, 1], (1, 4), [0, 1, 2, 3], None, 3, [1, 2, 0]])
        found = [fewest_for(SQUARE, 1, 1), fewest_for(SQUARE, 1, 2), fewest_for(SQUARE, 0, 4),
                 fewest_for([1, 0], 0, 1), fewest_for([1, 0], 0, 2), fewest_for([1, 0], 5, 3)]
        self.assertEqual(found, [5, 6, 1, None, 0, 3])

    def check(self, sources, many):
        turns = first_turns(sources, many)
        for number, expected in enumerate(turns):
            self.assertEqual(power_of(sources, number), expected, (sources, number))
            self.assertEqual(kept_cells(sources, number), sorted(set(expected)))
            for other in range(0, many, 3):
                self.assertIs(same_turns(sources, number, other), expected == turns[other])
        index, period = index_and_period_by_turning(sources)
        self.assertEqual(index_and_period(sources), (index, period), sources)
        self.assertEqual(turns_back(sources), period if index == 0 else None)
        self.check_great(sources, index, period)

    def check_great(self, sources, index, period):
        for turns in (TOP, TOP - 1, 10 ** 18 + 3, 2 ** 64):
            left = index + (turns - index) % period
            self.assertEqual(power_of(sources, turns), power_of(sources, left))
            self.assertEqual(kept_cells(sources, turns), kept_cells(sources, left))
            self.assertIs(same_turns(sources, turns, left), True)
            self.assertIs(same_turns(sources, left, turns), True)
            self.assertIs(same_turns(sources, turns, left + 1), period == 1)
            self.assertEqual(fewest_for(sources, 2, turns), fewest_for(sources, 1, left))
            self.assertEqual(fewest_for(sources, 0, turns), fewest_for(sources, 0, left))

    def test_all_of_four_cells(self):
        for cells in (1, 2, 3, 4):
            for sources in all_sources(cells):
                self.check(sources, 8)

    def test_some_of_more_cells(self):
        chance = random.Random(31)
        for cells in (5, 6, 7, 9, 12, 30, 60):
            for _ in range(6):
                self.check(chance.choices(range(cells), k=cells), 12)
            self.check(chance.sample(range(cells), cells), 12)

    def test_sixty_cells(self):
        chain = [0, *range(59)]
        self.assertEqual(index_and_period(chain), (59, 1))
        self.assertEqual([kept_cells(chain, turns) for turns in (0, 1, 58, 59, TOP)],
                         [list(range(60)), list(range(59)), [0, 1], [0], [0]])
        self.assertIsNone(turns_back(chain))
        whole = rounds_of(60)
        self.assertEqual([index_and_period(whole), turns_back(whole)], [(0, 60), 60])
        self.assertEqual(power_of(whole, TOP), power_of(whole, TOP % 60))
        self.assertEqual(power_of(whole, 59), [59, *range(59)])
        ways = rounds_of(3, 4, 5, 7, 11, 13, 17)
        self.assertEqual([index_and_period(ways), turns_back(ways)], [(0, 1021020), 1021020])
        self.assertIs(same_turns(ways, TOP, TOP % 1021020), True)
        self.assertIs(same_turns(ways, TOP, TOP % 510510), math.gcd(TOP // 510510, 2) == 2)
        tail = [*rounds_of(7, 9), *range(15, 59)]
        self.assertEqual([index_and_period(tail), turns_back(tail)], [(44, 63), None])
        self.check_great(tail, 44, 63)
        self.assertIs(same_turns(tail, 44, 44 + 63), True)
        self.assertIs(same_turns(tail, 43, 43 + 63), False)

    def test_one_cell(self):
        self.assertEqual([power_of([0], 0), power_of([0], TOP), index_and_period([0]), kept_cells([0], 5),
                          turns_back([0]), fewest_for([0], 0, 7), fewest_for([0], 3, 0)],
                         [[0], [0], (0, 1), [0], 1, 0, 0])

    def test_no_turn_at_all(self):
        for sources in ([0, 0], [1, 0], SQUARE, [59] * 60):
            cells = len(sources)
            self.assertEqual(power_of(sources, 0), list(range(cells)))
            self.assertEqual(kept_cells(sources, 0), list(range(cells)))
            for free in (0, 1, HUGE):
                self.assertEqual(fewest_for(sources, free, 0), 0)
            self.assertIsNot(power_of(sources, 1), sources)

    def test_turns_back_is_none_exactly_if_it_never_comes_back(self):
        for sources in all_sources(4):
            back = [turns for turns, held in enumerate(first_turns(sources, 13)) if turns and held == [0, 1, 2, 3]]
            self.assertEqual(turns_back(sources), back[0] if back else None)

    def test_numbers_out_of_range(self):
        for wrong in (-1, TOP + 1, HUGE, True, None, "1"):
            for function, arguments in [(power_of, (SQUARE, wrong)), (kept_cells, (SQUARE, wrong)),
                                        (same_turns, (SQUARE, wrong, 0)), (same_turns, (SQUARE, 0, wrong)),
                                        (fewest_for, (SQUARE, 1, wrong))]:
                self.assertRaises(InvalidNumber, function, *arguments)
        self.assertRaises(InvalidNumber, fewest_for, SQUARE, -1, 1)
        self.assertEqual(fewest_for(SQUARE, HUGE, TOP), fewest_for(SQUARE, 1, 4))

    def test_the_first_wrong_source(self):
        for sources, index in [([1], 0), ([0, 2], 1), ([0, -1, 5], 1), ([0, 1, True], 2), ([59] * 59 + [60], 59),
                               ([], None), ((0,), None), ([0] * 61, None), (None, None)]:
            for function, arguments in [(power_of, (-1,)), (index_and_period, ()), (same_turns, (-1, -1)),
                                        (kept_cells, (None,)), (turns_back, ()), (fewest_for, (-1, -1))]:
                with self.assertRaises(MoveError) as caught:
                    function(sources, *arguments)
                self.assertIs(type(caught.exception), InvalidSources)
                self.assertEqual(caught.exception.index, index)


class FewestForTest(unittest.TestCase):
    def test_by_search(self):
        for cells in (1, 2, 3, 4):
            for free in (0, 1):
                self.check_search(cells, free)

    def check_search(self, cells, free):
        """With so many free cells, all that moves lead to."""
        least = {}
        for held, number in distances(range(cells + free), move_deeds(cells + free)).items():
            least[held[:cells]] = min(number, least.get(held[:cells], number))
        for sources in all_sources(cells):
            for turns, held in enumerate(first_turns(sources, 4)):
                expected = least.get(tuple(held))
                self.assertEqual(fewest_for(sources, free, turns), expected, (sources, free, turns))
                if free:
                    for more in (2, 60, HUGE):
                        self.assertEqual(fewest_for(sources, more, turns), expected)

    def test_as_a_wish(self):
        chance = random.Random(37)
        for cells in (5, 20, 59, 60):
            now = [TOP - 10 ** 27 * cell for cell in range(cells)]
            for sources in [chance.choices(range(cells), k=cells), chance.sample(range(cells), cells)]:
                for turns in (1, 2, 5, TOP):
                    wish = turned_once(now, power_of(sources, turns))
                    self.assertEqual(fewest_for(sources, 0, turns), fewest_moves(now, wish))
                    if cells < 60:
                        self.assertEqual(fewest_for(sources, 1, turns), fewest_moves([*now, 5], [*wish, None]))

    def test_sixty_cells(self):
        pairs = rounds_of(*[2] * 30)
        self.assertEqual([fewest_for(pairs, free, 1) for free in (0, 1, 2)], [None, 90, 90])
        self.assertEqual([fewest_for(pairs, free, TOP) for free in (0, 1, 2)], [0, 0, 0])
        self.assertEqual([fewest_for(rounds_of(60), 1, turns) for turns in (1, 30, 20, 60)], [61, 90, 80, 0])
        self.assertEqual(fewest_for([*rounds_of(59), 0], 0, 1), 60)
        self.assertEqual(fewest_for([*rounds_of(59), 59], 0, 1), None)


if __name__ == "__main__":
    unittest.main()
