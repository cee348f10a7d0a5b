"""[7], [18], [19]: the fewest moves, the first of them, and refusals."""

import itertools
import unittest

from tests.samples import ANYTHING, HUGE, TOP
from tests.searching import all_contents, all_moves, all_wishes, least_of_wishes, move_deeds
from tests.words import back_by_the_words, missing_ones, rings_by_the_words, row_behind, spare_by_the_words
from tests.words import is_done_by, wrong_ones
from valuesmoved.errors import InvalidNumber, Missing, MoveError, NoMoves
from valuesmoved.fewest import fewest_moves, first_moves, refusal, shows_refusal, some_moves

# Sixty values of thirty figures each.
LONG = [(-1) ** cell * (10 ** 29 + 10 ** 27 * cell + 7) for cell in range(60)]


def turned_by(now, by):
    """The wish in which each cell wants what the one so many places further holds."""
    return [now[(cell + by) % len(now)] for cell in range(len(now))]


class Words:
    """What the words say of a wish, found once for all values that are judged."""

    def __init__(self, now, wish):
        self.wrong = wrong_ones(now, wish)
        self.missing = missing_ones(now, wish)
        self.rings = rings_by_the_words(now, wish)
        self.spare = spare_by_the_words(now, wish)
        self.back = back_by_the_words(now, wish)

    def is_refusal(self, number, value):
        """Whether a tuple of right kinds is a refusal."""
        if value[0] == "missing":
            return value[1] in self.missing
        if value[0] == "stuck":
            return bool(self.rings and not self.spare and not self.back)
        _, wrong, ways, more = value
        if more not in (0, 1) or (more == 1 and (not self.rings or self.spare)):
            return False
        if wrong != sorted(set(wrong)) or ways != sorted(set(ways)):
            return False
        if not set(wrong) <= set(self.wrong) or not set(ways) <= set(self.rings):
            return False
        return len(wrong) + len(ways) + more > number


class FewestTest(unittest.TestCase):
    def test_example(self):
        found = [fewest_moves([1, 2, 3], [2, 1, 3]), fewest_moves([1, 2, 3, 9], [2, 1, 3, None]),
                 fewest_moves([1, 2, 2], [2, 1, 2]), fewest_moves([5, 6, 7, 7], [6, 5, 7, 7]),
                 fewest_moves([1, 2, 3], [2, 1, 1])]
        self.assertEqual(found, [None, 3, 2, 4, 3])
        self.assertEqual(first_moves([1, 2, 3], [2, 1, 1]), [(0, 2)])
        self.assertEqual(len(some_moves([1, 2, 3, 9], [2, 1, 3, None])), 3)
        self.assertEqual(some_moves([1, 2, 2], [2, 1, 2]), [("move", 0, 1), ("move", 2, 0)])

    def test_all_small_ones_by_search(self):
        for cells in (1, 2, 3, 4):
            for now in all_contents(cells):
                least = least_of_wishes(now, move_deeds(cells))
                for wish in all_wishes(cells):
                    self.check(now, wish, least.get(tuple(wish)))

    def test_some_of_five_cells_by_search(self):
        wishes = all_wishes(5)
        for at, now in enumerate(all_contents(5)):
            least = least_of_wishes(now, move_deeds(5))
            for wish in wishes[at:: 97]:
                self.check(now, wish, least.get(tuple(wish)))

    def check(self, now, wish, number):
        self.assertEqual(fewest_moves(now, wish), number, (now, wish))
        if number is not None:
            self.check_row(now, wish, number)
            return
        absent = missing_ones(now, wish)
        for function in (some_moves, first_moves):
            with self.assertRaises(MoveError) as caught:
                function(now, wish)
            self.assertIs(type(caught.exception), Missing if absent else NoMoves)
            if absent:
                self.assertEqual(caught.exception.value, absent[0])

    def check_row(self, now, wish, number):
        row = some_moves(now, wish)
        self.assertEqual(len(row), number, (now, wish))
        self.check_moves(row)
        self.assertTrue(is_done_by(row_behind(now, row), wish), (now, wish, row))

    def check_moves(self, row):
        for step in row:
            self.assertIs(type(step), tuple)
            self.assertEqual(step[0], "move")
            self.assertNotEqual(step[1], step[2])

    def test_nothing_to_do(self):
        for now, wish in [([1], [1]), ([1], [None]), ([1, 2], [None, 2]), ([3] * 60, [3] * 60), (LONG, LONG),
                          (LONG, [None] * 60), ([1, 2, 2], [1, 2, 2])]:
            self.assertEqual(fewest_moves(now, wish), 0)
            self.assertEqual(some_moves(now, wish), [])
            self.assertEqual(first_moves(now, wish), [])
            self.assertIsNone(refusal(now, wish, 0))

    def test_one_cell_that_is_wrong(self):
        self.assertIsNone(fewest_moves([1], [2]))
        with self.assertRaises(Missing) as caught:
            some_moves([1], [2])
        self.assertEqual(caught.exception.value, 2)

    def test_sixty_cells(self):
        chain = [None, *LONG[:59]]
        self.check(LONG, chain, 59)
        self.check(LONG, chain[:1] + [LONG[59 - cell] for cell in range(1, 60)], 59 + 1 + 28)
        self.check(LONG[::-1], [None, *LONG[::-1][:59]], 59)
        self.check(LONG, turned_by(LONG, 1), None)
        self.check(LONG, turned_by(LONG, 59), None)
        self.check(LONG, turned_by(LONG, 30), None)
        # A free cell, a wrong cell without a ring, two back cells.
        free = LONG[:59] + [TOP]
        self.check(free, [*turned_by(LONG[:59], 1), None], 60)
        self.check(free, [*turned_by(LONG[:59], 1)[:58], LONG[0], LONG[3]], 60)
        back = LONG[:58] + [TOP, TOP]
        self.check(back, [*turned_by(LONG[:58], 1), TOP, TOP], 60)
        self.check(back, [*turned_by(LONG[:58], 29), TOP, TOP], 58 + 29 + 1)
        self.check(back, [*turned_by(LONG[:58], 29), TOP, None], 58 + 29)
        self.check(LONG, [LONG[7]] * 60, 59)
        self.check([TOP] * 59 + [-TOP], [-TOP] * 60, 59)

    def test_the_first_of_sixty(self):
        self.assertEqual(first_moves(LONG, [None, *LONG[:59]]), [(58, 59)])
        self.assertEqual(first_moves(LONG, [*LONG[1:], None]), [(1, 0)])
        back = LONG[:58] + [TOP, TOP]
        wish = [*turned_by(LONG[:58], 1), TOP, TOP]
        self.assertEqual(first_moves(back, wish), sorted((cell, other) for cell in range(58) for other in (58, 59)))

    def test_free_cells_that_hold_what_is_needed(self):
        self.check([1, 2, 9], [9, None, None], 1)
        self.check([1, 2, 9, 3], [2, 1, None, 9], 4)
        self.check([1, 2, 9], [2, 9, None], 2)
        self.check([1, 2, 1], [2, 1, None], 2)
        self.check([1, 2, 3, 4, 5, 6], [2, 1, 4, 3, None, 5], 7)

    def test_the_least_missing_value(self):
        for function in (some_moves, first_moves):
            for now, wish, value in [([1, 2], [5, -5], -5), ([1, 2, 3], [9, 1, 8], 8), ([0, 1], [TOP, -TOP], -TOP)]:
                with self.assertRaises(Missing) as caught:
                    function(now, wish)
                self.assertEqual(caught.exception.value, value)

    def test_none_but_no_moves(self):
        for function in (some_moves, first_moves):
            self.assertRaises(NoMoves, function, [1, 2], [2, 1])
            self.assertRaises(NoMoves, function, [1, 2, 3], [2, 1, 3])
            self.assertRaises(NoMoves, function, [1, 2, 3, 4], [2, 1, 4, 3])


class FirstMovesTest(unittest.TestCase):
    def test_all_small_ones_by_search(self):
        for cells in (1, 2, 3):
            self.check_all(cells, all_wishes(cells))

    def test_some_of_four_cells_by_search(self):
        self.check_all(4, all_wishes(4)[::7])

    def check_all(self, cells, wishes):
        least = {now: least_of_wishes(now, move_deeds(cells))
                 for now in itertools.product(range(cells), repeat=cells)}
        for now in all_contents(cells):
            for wish in map(tuple, wishes):
                if wish in least[tuple(now)]:
                    self.assertEqual(first_moves(now, list(wish)), self.first_by_search(least, now, wish), (now, wish))

    def first_by_search(self, least, now, wish):
        number = least[tuple(now)][wish]
        found = []
        for a, b in all_moves(len(now)):
            behind = tuple(row_behind(now, [("move", a, b)]))
            if number > 0 and least[behind].get(wish) == number - 1:
                found.append((a, b))
        return found


class RefusalTest(unittest.TestCase):
    def test_example(self):
        self.assertEqual(refusal([1, 2, 3], [2, 1, 3], 9), ("stuck",))
        self.assertEqual(refusal([1, 2], [2, 5], 9), ("missing", 5))
        self.assertIsNone(refusal([1, 2, 2], [2, 1, 2], 2))
        now, wish = [1, 2, 3, 9], [2, 1, 3, None]
        self.assertIs(shows_refusal(now, wish, 2, ("count", [0, 1], [(0, 1)], 0)), True)
        self.assertIs(shows_refusal(now, wish, 2, ("count", [0, 1], [(0, 1)], 1)), False)

    def test_a_row_or_a_refusal(self):
        for cells in (1, 2, 3, 4):
            for now in all_contents(cells):
                least = least_of_wishes(now, move_deeds(cells))
                for wish in all_wishes(cells)[:: 1 if cells < 4 else 5]:
                    self.check_numbers(now, wish, least.get(tuple(wish)))

    def check_numbers(self, now, wish, least):
        words = Words(now, wish)
        for number in [0, 5, TOP, HUGE] if least is None else [0, max(0, least - 1), least, least + 1, HUGE]:
            found = refusal(now, wish, number)
            self.assertEqual(found is None, least is not None and least <= number)
            if found is not None:
                self.assertIs(shows_refusal(now, wish, number, found), True)
                self.assertTrue(words.is_refusal(number, found))

    def test_each_number_of_sixty_cells(self):
        back = LONG[:58] + [TOP, TOP]
        for now, wish, least in [(back, [*turned_by(LONG[:58], 29), TOP, TOP], 88),
                                 (LONG, [None, *LONG[:59]], 59),
                                 (LONG, turned_by(LONG, 30), None),
                                 (LONG, [TOP, *LONG[:59]], None)]:
            for number in [*range(100), 10 ** 40, HUGE]:
                found = refusal(now, wish, number)
                self.assertEqual(found is None, least is not None and least <= number)
                self.assertIs(shows_refusal(now, wish, number, found), found is not None)

    def test_judged_by_the_words(self):
        for now in all_contents(3) + [[0, 1, 2, 3], [0, 1, 2, 2], [0, 1, 0, 2]]:
            for wish in all_wishes(len(now))[:: 1 if len(now) == 3 else 17]:
                self.check_judged(now, wish)

    def check_judged(self, now, wish):
        cells = range(len(now))
        values = [("stuck",), *[("missing", value) for value in range(-1, len(now) + 2)]]
        picked = [list(some) for many in range(4) for some in itertools.combinations(cells, many)]
        ways = [[], [(0, 1)], [(0, 2)], [(1, 2)], [(0, 1, 2)], [(0, 1), (2, 3)], [(2, 3), (0, 1)]]
        values += [("count", *told) for told in itertools.product(picked, ways, (0, 1))]
        words = Words(now, wish)
        for number, value in itertools.product((0, 3), values):
            self.assertIs(shows_refusal(now, wish, number, value), words.is_refusal(number, value),
                          (now, wish, number, value))

    def test_shown_only_where_so_many_are_not_enough(self):
        for now in all_contents(4):
            least = least_of_wishes(now, move_deeds(4))
            for wish in all_wishes(4)[::3]:
                number = least.get(tuple(wish))
                if number is not None:
                    shown = [shows_refusal(now, wish, number, value) for value in self.strongest(now, wish)]
                    self.assertNotIn(True, shown, (now, wish))

    def strongest(self, now, wish):
        wrong, found = wrong_ones(now, wish), rings_by_the_words(now, wish)
        return [("stuck",), *[("missing", value) for value in range(5)], ("count", wrong, found, 0),
                ("count", wrong, found, 1)]

    def test_parts_are_enough(self):
        now, wish = [1, 2, 3, 4, 5, 9], [2, 1, 4, 5, 3, None]
        two = [(0, 1), (2, 3, 4)]
        for wrong, ways, number in [([0, 1, 2, 3, 4], two, 6), ([0, 4], two, 3), ([], two, 1), ([], two[1:], 0),
                                    ([1, 3], [], 1), ([2], [], 0)]:
            self.assertIs(shows_refusal(now, wish, number, ("count", wrong, ways, 0)), True)
            self.assertIs(shows_refusal(now, wish, number + 1, ("count", wrong, ways, 0)), False)

    def test_the_back_cell_counts(self):
        now, wish = [5, 6, 7, 7], [6, 5, 7, 7]
        self.assertIs(shows_refusal(now, wish, 3, ("count", [0, 1], [(0, 1)], 1)), True)
        self.assertIs(shows_refusal(now, wish, 4, ("count", [0, 1], [(0, 1)], 1)), False)
        self.assertIs(shows_refusal(now, wish, 0, ("count", [], [], 1)), True)
        self.assertIs(shows_refusal(now, [6, 5, 7, None], 0, ("count", [], [], 1)), False)
        self.assertIs(shows_refusal(now, [5, 6, 7, 7], 0, ("count", [], [], 1)), False)
        # Where nothing helps, more than one move for each ring would be needed, too.
        self.assertIs(shows_refusal([5, 6], [6, 5], 3, ("count", [0, 1], [(0, 1)], 1)), True)

    def test_wrong_values(self):
        now, wish = [1, 2, 3, 4, 7, 7, 8], [2, 1, 4, 3, 7, 7, 8]
        right = ("count", [0, 1, 2, 3], [(0, 1), (2, 3)], 1)
        self.assertIs(shows_refusal(now, wish, 2, right), True)
        word, wrong, ways, back = right
        others = [list(right), (word, wrong, ways), (*right, 0), (wrong, ways, back), (word,), (),
                  ("counts", *right[1:]), (None, *right[1:]), ([word], *right[1:]), (True, *right[1:]),
                  (word, ways, wrong, back)]
        others += [(word, told, ways, back) for told in
                   [(0, 1, 2, 3), [0, 1, 3, 2], [0, 0, 1, 2], [0, 1, 2, 4], [0, 1, 2, 6], [0, 1, 2, 7], [-1, 0, 1, 2],
                    [False, True, 2, 3], [0, True, 2, 3], [0, 1, 2, None], [None], "0123", None, 4, {"0": 1}, [[0]],
                    [(0,), (1,)], [0, 1, 2, HUGE], [MoveError("a")], [0, 1, 2, "3"]]]
        others += [(word, wrong, told, back) for told in
                   [((0, 1), (2, 3)), [(2, 3), (0, 1)], [(0, 1), (0, 1)], [(1, 0)], [(0, 1), (3, 2)], [(0, 2)],
                    [[0, 1], [2, 3]], [(0, 1), [2, 3]], [(False, True), (2, 3)], [(0, True)], [(0, 1, 0)], [()],
                    [(0, 1, 2, 3)], [0, 1], [None], None, "", 2, {}, [(0, 1), (2, 3), (4, 5)], [("0", "1")],
                    [((0, 1),)]]]
        others += [(word, wrong, ways, told) for told in (2, -1, True, False, None, "1", [1], (1,), HUGE)]
        for value in others:
            with self.subTest(value=value):
                self.assertIs(shows_refusal(now, wish, 0, value), False)

    def test_wrong_missing_and_stuck(self):
        for value in [("missing",), ("missing", 6), ("missing", 2), ("missing", None), ("missing", True),
                      ("missing", "5"), ("missing", [5]), ("missing", (5,)), ("missing", 5, 5), ["missing", 5],
                      ("Missing", 5), (5, "missing"), ("stuck",), "missing", {"missing": 5}]:
            self.assertIs(shows_refusal([1, 2], [2, 5], 0, value), False)
        self.assertIs(shows_refusal([1, 2], [2, 5], HUGE, ("missing", 5)), True)
        self.assertIs(shows_refusal([7, 2], [1, 2], 0, ("missing", True)), False)
        self.assertIs(shows_refusal([7, 2], [0, 2], 0, ("missing", False)), False)
        self.assertIs(shows_refusal([7, 2], [0, 2], 0, ("missing", 0)), True)
        for value in [["stuck"], "stuck", ("stuck", 1), ("stuck", ()), (("stuck",),), ("Stuck",), ("missing", 1)]:
            self.assertIs(shows_refusal([1, 2], [2, 1], 0, value), False)
        self.assertIs(shows_refusal([1, 2], [2, 1], HUGE, ("stuck",)), True)
        for wish in ([1, 2, 2], [2, 1, 2], [None, 1, 2], [5, 1, 2]):
            self.assertIs(shows_refusal([1, 2, 2], wish, 0, ("stuck",)), False)
        self.assertIs(shows_refusal([1, 2, 3, 3], [2, 1, 3, 3], 0, ("stuck",)), False)

    def test_anything(self):
        for value in ANYTHING:
            with self.subTest(value=str(value)[:50]):
                self.assertIs(shows_refusal([1, 2], [2, 1], 0, value), False)
                self.assertIs(shows_refusal([1, 2], [2, 5], 0, value), False)
                for word in ("missing", "stuck"):
                    self.assertIs(shows_refusal([1, 2, 9], [2, 1, 3], 0, (word, value)), False)
                if value != []:
                    self.assertIs(shows_refusal([1, 2], [2, 1], 0, ("count", value, [(0, 1)], 0)), False)
                    self.assertIs(shows_refusal([1, 2], [2, 1], 0, ("count", [0, 1], value, 0)), False)

    def test_the_number_ahead_of_the_value(self):
        for number in (-1, True, None, "1", [1]):
            for wish in ([2, 1], [2, 5]):
                self.assertRaises(InvalidNumber, refusal, [1, 2], wish, number)
                self.assertRaises(InvalidNumber, shows_refusal, [1, 2], wish, number, "anything")

    def test_returned_lists_are_new(self):
        now, wish = [1, 2, 9], [2, 1, None]
        _, wrong, ways, _ = refusal(now, wish, 0)
        wrong.append(7)
        ways.append(7)
        self.assertEqual(refusal(now, wish, 0), ("count", [0, 1], [(0, 1)], 0))


if __name__ == "__main__":
    unittest.main()
