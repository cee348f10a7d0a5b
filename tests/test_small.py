"""[5], [23]: the least numbers and all contents that moves lead to, of five cells at the most."""

import itertools
import random
import unittest

from tests.samples import HUGE, TOP
from tests.searching import all_contents, all_wishes, distances, kind_deeds, least_of_wishes
from valuesmoved.errors import InvalidKinds, InvalidNow, InvalidWish, MoveError, TooLarge
from valuesmoved.fewest import fewest_moves
from valuesmoved.kinds import fewest_kind_moves
from valuesmoved.small import fewest_by_trying, reachable


def all_kinds(cells):
    return ["".join(letters) for letters in itertools.product("rm", repeat=cells)]


class SmallTest(unittest.TestCase):
    def raised(self, function, *arguments):
        with self.assertRaises(MoveError) as caught:
            function(*arguments)
        return type(caught.exception), vars(caught.exception)

    def test_example(self):
        found = [fewest_by_trying([1, 2, 9], [2, 1, None], "mmr"),
                 fewest_by_trying([1, 2, 9, 8], [2, 1, None, None], "mmrr"),
                 fewest_by_trying([1, 2, 9, 8], [2, 1, None, None], "mmrm"), reachable([1, 2], "rm")]
        self.assertEqual(found, [None, 4, 6, [[1, 1], [1, 2], [2, 2]]])

    def test_all_of_three_cells(self):
        for cells in (1, 2, 3):
            for now, kinds in itertools.product(all_contents(cells), all_kinds(cells)):
                least = least_of_wishes(now, kind_deeds(kinds))
                for wish in all_wishes(cells)[:: 1 if cells < 3 else 5]:
                    self.assertEqual(fewest_by_trying(now, wish, kinds), least.get(tuple(wish)), (now, wish, kinds))

    def test_some_of_four_and_five_cells(self):
        chance = random.Random(23)
        for cells, many in ((4, 12), (5, 6)):
            for _ in range(many):
                now, kinds = chance.choices(range(cells), k=cells), "".join(chance.choices("rm", k=cells))
                least = least_of_wishes(now, kind_deeds(kinds))
                for wish in [chance.choices([*now, None], k=cells) for _ in range(8)] + [[9] * cells]:
                    self.assertEqual(fewest_by_trying(now, wish, kinds), least.get(tuple(wish)), (now, wish, kinds))

    def test_as_the_facts_say(self):
        chance = random.Random(29)
        for _ in range(60):
            now = chance.choices(range(5), k=5)
            wish = chance.choices([*range(5), None], k=5)
            self.assertEqual(fewest_by_trying(now, wish, "rrrrr"), fewest_moves(now, wish))
            wish, kinds = [*chance.choices([0, 1, 2, None], k=3), None, None], "".join(chance.choices("rm", k=3)) + "rr"
            self.assertEqual(fewest_by_trying([0, 1, 2, 3, 4], wish, kinds),
                             fewest_kind_moves([0, 1, 2, 3, 4], wish, kinds))

    def test_none(self):
        for now, wish, kinds in [([1], [2], "r"), ([1, 2], [2, 1], "rr"), ([1, 2], [2, None], "mm"),
                                 ([1, 2, 3], [2, 9, None], "rrr"), ([1, 2, 3, 4, 5], [2, 3, 4, 5, 1], "rrrrr"),
                                 ([1, 2, 3, 4, 5], [2, None, None, None, None], "mmmmm")]:
            self.assertIsNone(fewest_by_trying(now, wish, kinds))

    def test_done_already(self):
        for now, wish in [([1], [1]), ([1], [None]), ([3, 3, 3, 3, 3], [3, None, 3, None, 3]), ([1, 2], [None, None])]:
            for kind in "rm":
                self.assertEqual(fewest_by_trying(now, wish, kind * len(now)), 0)

    def test_missing_and_equal_values_are_no_errors(self):
        self.assertEqual(fewest_by_trying([1, 1, 2, 2, 3], [2, 2, 1, 1, 3], "rrrrr"), 4)
        self.assertEqual(fewest_by_trying([1, 1, 2, 2, 3], [2, 2, 1, 1, None], "mmmmr"), 7)
        self.assertIsNone(fewest_by_trying([1, 1, 2, 2, 3], [4, None, None, None, None], "rrrrr"))

    def test_great_values(self):
        self.assertEqual(fewest_by_trying([TOP, -TOP, 0], [-TOP, TOP, None], "rrr"), 3)
        self.assertEqual(reachable([TOP, -TOP], "rm"), [[-TOP, -TOP], [TOP, -TOP], [TOP, TOP]])

    def test_all_that_is_reached(self):
        for cells in (1, 2, 3):
            for now, kinds in itertools.product(all_contents(cells), all_kinds(cells)):
                self.check_reached(now, kinds)
        for now, kinds in [([1, 2, 3, 4], "rmmr"), ([2, 2, 1, 1], "rmmm"), ([4, 3, 2, 1, 0], "rrrrr"),
                           ([0, 1, 2, 3, 4], "mmmmr"), ([0, 0, 1, 2, 3], "mmmmm"), ([7, 7, 7, 7, 7], "rrrrr")]:
            self.check_reached(now, kinds)

    def check_reached(self, now, kinds):
        found = reachable(now, kinds)
        self.assertEqual(found, [list(held) for held in sorted(distances(now, kind_deeds(kinds)))])
        self.assertIn(now, found)
        self.assertEqual({type(held) for held in found}, {list})

    def test_nothing_can_be_moved(self):
        self.assertEqual(reachable([5], "r"), [[5]])
        self.assertEqual(reachable([5, 4, 3], "mmm"), [[5, 4, 3]])
        self.assertEqual(reachable([5, 5, 5], "rrr"), [[5, 5, 5]])

    def test_more_than_five_cells(self):
        for cells in (6, 7, 60):
            now, kinds = list(range(cells)), "r" * cells
            for wish in (now, [None] * cells, [99] * cells):
                self.assertEqual(self.raised(fewest_by_trying, now, wish, kinds), (TooLarge, {"limit": 5}))
            self.assertEqual(self.raised(reachable, now, kinds), (TooLarge, {"limit": 5}))
            # Behind the errors of all parameters.
            for wrong in (kinds[1:], kinds + "r", kinds[1:] + "R", None, HUGE):
                self.assertEqual(self.raised(fewest_by_trying, now, now, wrong)[0], InvalidKinds)
                self.assertEqual(self.raised(reachable, now, wrong)[0], InvalidKinds)
            self.assertEqual(self.raised(fewest_by_trying, now, now[1:], None), (InvalidWish, {"index": None}))
            now[5] = True
            self.assertEqual(self.raised(fewest_by_trying, now, now, kinds), (InvalidNow, {"index": 5}))
            self.assertEqual(self.raised(reachable, now, kinds), (InvalidNow, {"index": 5}))

    def test_returned_lists_are_new(self):
        now = [1, 2, 3]
        found = reachable(now, "rrr")
        for held in found:
            self.assertIsNot(held, now)
            held.append("more")
        self.assertEqual(now, [1, 2, 3])
        self.assertIn(now, reachable(now, "rrr"))


if __name__ == "__main__":
    unittest.main()
