"""[10], [22]: moves of which none leads from memory to memory."""

import itertools
import random
import unittest

from tests.samples import ANYTHING, HUGE, NO_STEPS, TOP, bad_row
from tests.searching import all_contents, all_moves, all_wishes, kind_deeds, least_of_wishes
from tests.words import closed_by_the_words, is_done_by, missing_ones, next_ones, row_behind, wrong_ones
from valuesmoved.errors import HeldTwice, InvalidKinds, InvalidNumber, Missing, MoveError, NotIdle
from valuesmoved.kinds import bound_rows, does_kinds, fewest_kind_moves, idle_registers, is_kind_row, loads
from valuesmoved.kinds import shows_kind_bound, some_kind_moves

ERRORS = (loads, bound_rows, fewest_kind_moves, some_kind_moves)


def all_kinds(cells):
    return ["".join(letters) for letters in itertools.product("rm", repeat=cells)]


def needed_ones(now, wish):
    return sorted({wish[cell] for cell in wrong_ones(now, wish)})


def idle_by_the_words(now, wish, kinds):
    return [cell for cell in range(len(now))
            if kinds[cell] == "r" and wish[cell] is None and now[cell] not in needed_ones(now, wish)]


def loads_by_the_words(now, wish, kinds):
    wrong = wrong_ones(now, wish)
    return [value for value in needed_ones(now, wish)
            if any(now[cell] == value and kinds[cell] == "m" for cell in range(len(now)))
            and any(wish[cell] == value and kinds[cell] == "m" for cell in wrong)
            and not any(wish[cell] == value and kinds[cell] == "r" for cell in wrong)]


def is_bound_by_the_words(now, wish, kinds, way):
    wrong = wrong_ones(now, wish)
    for p, c in zip(way, next_ones(way)):
        if any(wish[other] == now[c] and kinds[other] == "r" and other not in way for other in wrong):
            return False
        if kinds[c] == kinds[p] == "m":
            return False
        if kinds[c] == kinds[p] == "r" and any(wish[other] == now[c] and other != p for other in wrong):
            return False
    return True


def bound_by_the_words(now, wish, kinds):
    return [way for way in closed_by_the_words(now, wish) if is_bound_by_the_words(now, wish, kinds, way)]


def error_by_the_words(now, wish, kinds, idle_too):
    """The error that comes for right parameters, with its value, or None."""
    if missing_ones(now, wish):
        return Missing, missing_ones(now, wish)[0]
    twice = [value for value in needed_ones(now, wish) if now.count(value) > 1]
    if twice:
        return HeldTwice, twice[0]
    return (NotIdle, None) if idle_too and len(idle_by_the_words(now, wish, kinds)) < 2 else None


class KindRowTest(unittest.TestCase):
    def test_all_moves(self):
        for kinds in all_kinds(3):
            for a, b in itertools.product(range(-1, 4), repeat=2):
                right = (a, b) in all_moves(3) and "r" in (kinds[a], kinds[b])
                self.assertIs(is_kind_row(kinds, [("move", a, b)]), right)
                self.assertIs(is_kind_row(kinds, [("swap", a, b)]), False)

    def test_each_step_counts(self):
        right, wrong = ("move", 0, 1), ("move", 1, 2)
        self.assertIs(is_kind_row("rmm", [right, right]), True)
        for row in ([wrong], [wrong, right], [right, wrong, right], [right] * 199 + [wrong], [right, ("swap", 0, 1)]):
            self.assertIs(is_kind_row("rmm", row), False)

    def test_lengths(self):
        self.assertIs(is_kind_row("m", []), True)
        self.assertIs(is_kind_row("m" * 60, []), True)
        self.assertIs(is_kind_row("m" * 59 + "r", [("move", 59, 0), ("move", 0, 59)]), True)
        self.assertIs(is_kind_row("m" * 60, [("move", 59, 0)]), False)
        for many in (0, 1, 199, 200, 201, 4000):
            self.assertIs(is_kind_row("rr", [("move", 0, 1)] * many), many <= 200)

    def test_wrong_steps(self):
        for item in NO_STEPS:
            with self.subTest(item=item):
                self.assertIs(is_kind_row("rrr", [item]), False)
                self.assertIs(is_kind_row("rrr", [("move", 0, 1), item]), False)

    def test_anything(self):
        for value in ANYTHING + [value for value, _ in bad_row()]:
            with self.subTest(value=str(value)[:50]):
                empty = isinstance(value, list) and value == []
                self.assertIs(is_kind_row("rrr", value), empty)
                self.assertIs(does_kinds([1, 2, 3], [1, None, 3], "rrr", value), empty)

    def test_kinds_ahead_of_the_value(self):
        for kinds in ("", "r" * 61, "x", "rR", "r m", None, True, 3, ["r"], ("r", "m")):
            self.assertRaises(InvalidKinds, is_kind_row, kinds, "anything")


class KindsTest(unittest.TestCase):
    def test_example(self):
        now, wish = [1, 2, 3, 8, 9], [2, 1, 2, None, None]
        found = [idle_registers(now, wish, "rmmrr"), loads(now, wish, "rmmrr"), bound_rows(now, wish, "rmmrr"),
                 fewest_kind_moves(now, wish, "rmmrr")]
        self.assertEqual(found, [[3, 4], [], [(0, 1)], 4])
        found = [loads(now, wish, "mmmrr"), fewest_kind_moves(now, wish, "mmmrr"),
                 fewest_kind_moves(now, wish, "rrrrr")]
        self.assertEqual(found, [[1, 2], 5, 3])
        row = [("move", 1, 3), ("move", 3, 2), ("move", 0, 1), ("move", 3, 0)]
        self.assertIs(does_kinds(now, wish, "rmmrr", row), True)

    def test_all_small_ones_by_the_words(self):
        for cells in (1, 2, 3):
            for now, kinds in itertools.product(all_contents(cells), all_kinds(cells)):
                for wish in all_wishes(cells):
                    self.check_words(now, wish, kinds)

    def test_some_by_the_words(self):
        for now, kinds in itertools.product(all_contents(4), all_kinds(4)):
            for wish in all_wishes(4)[::29]:
                self.check_words(now, wish, kinds)
        for kinds in all_kinds(5):
            for wish in itertools.islice(itertools.product(range(5), repeat=5), 7, 3125, 41):
                self.check_words([0, 1, 2, 3, 4], list(wish), kinds)

    def check_words(self, now, wish, kinds):
        self.assertEqual(idle_registers(now, wish, kinds), idle_by_the_words(now, wish, kinds))
        error = error_by_the_words(now, wish, kinds, False)
        if error is not None:
            for function in ERRORS:
                self.check_error(error, function, now, wish, kinds)
            self.check_error(error, shows_kind_bound, now, wish, kinds, 0, ([], [], []))
            return
        self.assertEqual(loads(now, wish, kinds), loads_by_the_words(now, wish, kinds))
        self.assertEqual(bound_rows(now, wish, kinds), bound_by_the_words(now, wish, kinds))
        if error_by_the_words(now, wish, kinds, True) is not None:
            for function in (fewest_kind_moves, some_kind_moves):
                self.check_error((NotIdle, None), function, now, wish, kinds)

    def check_error(self, error, function, *arguments):
        kind, value = error
        with self.assertRaises(MoveError) as caught:
            function(*arguments)
        self.assertIs(type(caught.exception), kind, arguments)
        if value is not None:
            self.assertEqual(caught.exception.value, value)

    def check(self, now, wish, kinds, number):
        self.assertEqual(fewest_kind_moves(now, wish, kinds), number, (now, wish, kinds))
        row = some_kind_moves(now, wish, kinds)
        self.assertEqual(len(row), number, (now, wish, kinds, row))
        self.assertIs(is_kind_row(kinds, row), True)
        self.assertTrue(is_done_by(row_behind(now, row), wish), (now, wish, kinds, row))
        self.assertIs(does_kinds(now, wish, kinds, row), True)

    def test_all_of_four_and_five_cells_by_search(self):
        tried = [([0, 1, 2, 3], kinds + "rr") for kinds in all_kinds(2)]
        tried += [(now, kinds + "rr") for kinds in all_kinds(3) for now in ([0, 1, 2, 3, 4], [0, 1, 1, 2, 2])]
        for now, kinds in tried:
            least = least_of_wishes(now, kind_deeds(kinds), 2)
            for wish in itertools.product([None, *range(5)], repeat=len(now) - 2):
                self.check_search(now, [*wish, None, None], kinds, least)

    def test_some_of_six_cells_by_search(self):
        chance = random.Random(3)
        for kinds in ("rrrmrr", "rmrmrr", "mmrrrr", "rmmmrr"):
            now = [0, 1, 2, 3, 4, 5]
            least = least_of_wishes(now, kind_deeds(kinds), 2)
            for _ in range(400):
                wish = [chance.choice([0, 1, 2, 3, 0, 1, 2, 3, 4, None]) for _ in range(4)]
                self.check_search(now, [*wish, None, None], kinds, least)
            for wish in itertools.permutations(range(4)):
                self.check_search(now, [*wish, None, None], kinds, least)

    def check_search(self, now, wish, kinds, least):
        error = error_by_the_words(now, wish, kinds, True)
        if error is None:
            self.check(now, wish, kinds, least[tuple(wish)])
        else:
            self.check_error(error, fewest_kind_moves, now, wish, kinds)
            self.check_error(error, some_kind_moves, now, wish, kinds)

    def test_sixty_cells(self):
        now = [(-1) ** cell * (10 ** 29 + 10 ** 27 * cell + 7) for cell in range(60)]
        turned = [*now[1:58], now[0], None, None]
        pairs = [*[now[cell ^ 1] for cell in range(58)], None, None]
        one = [*[now[57]] * 57, now[0], None, None]
        self.check(now, turned, "r" * 60, 59)
        self.check(now, turned, "m" * 58 + "rr", 58 + 58)
        self.check(now, turned, "rm" * 29 + "rr", 59)
        self.check(now, pairs, "r" * 60, 58 + 29)
        self.check(now, pairs, "rm" * 29 + "rr", 58 + 29)
        self.check(now, pairs, "m" * 58 + "rr", 58 + 58)
        self.check(now, one, "m" * 58 + "rr", 58 + 2)
        self.check(now, one, "r" * 60, 58)
        self.check(now, [None, *now[:57], None, None], "m" * 58 + "rr", 57 + 57)
        self.check(now, now[:58] + [None, None], "m" * 58 + "rr", 0)
        self.check(now, [None] * 60, "r" * 60, 0)

    def test_many_wishes_of_sixty_cells(self):
        chance = random.Random(5)
        for many in range(60):
            now = [TOP - 10 ** 28 * item for item in chance.sample(range(200), 60)]
            wish = [*chance.choices(now[:58], k=58), None, None]
            for cell in chance.sample(range(58), many % 58):
                wish[cell] = now[cell]
            moved = chance.sample(range(58), 58 - many % 58)
            for cell, other in zip(moved, moved[1:]):
                wish[cell] = now[other]
            kinds = "".join(chance.choice(["r", "m"]) for _ in range(58)) + "rr"
            number = len(wrong_ones(now, wish)) + len(loads_by_the_words(now, wish, kinds))
            self.check(now, wish, kinds, number + len(bound_rows(now, wish, kinds)))

    def test_nothing_to_do(self):
        self.check([1, 2, 3], [1, None, None], "mrr", 0)
        self.check([1, 1], [None, None], "rr", 0)
        self.assertRaises(NotIdle, fewest_kind_moves, [1, 2], [1, None], "rr")
        self.assertRaises(NotIdle, some_kind_moves, [1], [1], "r")

    def test_idle(self):
        self.assertEqual(idle_registers([1, 2, 3, 4], [2, None, None, None], "rrrm"), [2])
        # What only a right cell wants is not needed.
        self.assertEqual(idle_registers([1, 1, 2], [1, None, 2], "rrr"), [1])
        self.assertEqual(idle_registers([1], [None], "r"), [0])
        self.assertEqual(idle_registers([1], [None], "m"), [])
        self.assertEqual(idle_registers([5] * 60, [None] * 60, "rm" * 30), list(range(0, 60, 2)))
        # A value that is missing, or held twice, is no error here.
        self.assertEqual(idle_registers([1, 2, 2, 3], [2, None, None, 9], "rrrr"), [])
        self.assertEqual(idle_registers([1, 2, 3], [9, None, None], "rrr"), [1, 2])


    def test_lists_are_ascending(self):
        # Cell 0 leads into the row behind the other one.
        now, wish = [1, 2, 3, 4, 5, 6, 9, 9], [5, 3, 2, 4, 6, 5, None, None]
        for kinds, bound in [("mrrmmrrr", [(1, 2), (4, 5)]), ("mrrmrmrr", [(1, 2), (4, 5)]), ("mrrmrrrr", [(1, 2)])]:
            self.assertEqual(bound_rows(now, wish, kinds), bound)
            self.check(now, wish, kinds, 5 + len(bound))
        self.assertEqual(loads([7, 3, 5, 1], [5, 1, 3, 7], "mmmm"), [1, 3, 5, 7])


class ErrorsTest(unittest.TestCase):
    def raised(self, function, *arguments):
        with self.assertRaises(MoveError) as caught:
            function(*arguments)
        return type(caught.exception), getattr(caught.exception, "value", None)

    def test_their_sequence(self):
        now, wish = [1, 2, 2, 3, 3], [9, 3, -8, 2, None]
        for function in ERRORS:
            self.assertEqual(self.raised(function, now, wish, "rrrrr"), (Missing, -8))
            self.assertEqual(self.raised(function, now, [1, 3, 3, 2, None], "rrrrr"), (HeldTwice, 2))
            self.assertEqual(self.raised(function, now, [1, 3, 3, None, None], "rrrrr"), (HeldTwice, 3))
            self.assertEqual(self.raised(function, now, wish, "rrrr"), (InvalidKinds, None))
        for function in (fewest_kind_moves, some_kind_moves):
            self.assertEqual(self.raised(function, [1, 2, 3, 4], [2, 1, None, None], "rrrm"), (NotIdle, None))
            self.assertEqual(self.raised(function, [1, 2, 3, 1], [2, 2, 1, None], "rrrm"), (HeldTwice, 1))
        for function in (loads, bound_rows):
            function([1, 2, 3, 4], [2, 1, None, None], "rrrm")

    def test_those_of_the_bound(self):
        now, wish = [1, 2, 2, 3], [3, 1, 1, 2]
        for number in (-1, True, None, "1", -HUGE):
            self.assertEqual(self.raised(shows_kind_bound, now, wish, "rrrr", number, None), (InvalidNumber, None))
            self.assertEqual(self.raised(shows_kind_bound, now, wish, "rrr", number, None), (InvalidKinds, None))
        self.assertEqual(self.raised(shows_kind_bound, now, wish, "rrrr", 0, None), (HeldTwice, 2))
        self.assertEqual(self.raised(shows_kind_bound, now, [3, 1, 1, 9], "rrrr", 0, None), (Missing, 9))
        # No two registers need be idle.
        self.assertIs(shows_kind_bound([1, 2], [2, 1], "rr", 2, ([0, 1], [], [(0, 1)])), True)

    def test_others_have_none_of_them(self):
        for wish in ([9, 1, 1, 2], [3, 1, 1, 2], [3, 1, None, None]):
            self.assertIs(does_kinds([1, 2, 2, 3], wish, "rrrr", []), False)
            idle_registers([1, 2, 2, 3], wish, "rrrr")


class DoesKindsTest(unittest.TestCase):
    def test_all_short_rows(self):
        moves = [("move", a, b) for a, b in all_moves(3)] + [("swap", 0, 1)]
        for kinds in all_kinds(3):
            for row in itertools.product(moves, repeat=2):
                behind = row_behind([1, 2, 3], row)
                right = all(step[0] == "move" and "r" in (kinds[step[1]], kinds[step[2]]) for step in row)
                for wish in (behind, [None, *behind[1:]], [2, 1, None], [None, 4, None]):
                    self.assertIs(does_kinds([1, 2, 3], wish, kinds, list(row)), right and is_done_by(behind, wish))


class KindBoundTest(unittest.TestCase):
    def test_parts_are_enough(self):
        now, wish, kinds = [1, 2, 3, 4, 5, 8, 9], [2, 1, 4, 3, 4, None, None], "rrmmmrr"
        right = ([0, 1, 2, 3, 4], [3, 4], [(0, 1)])
        self.assertEqual([loads(now, wish, kinds), bound_rows(now, wish, kinds)], [right[1], right[2]])
        for number in range(10):
            self.assertIs(shows_kind_bound(now, wish, kinds, number, right), number < 8)
        for value in [([], [], [(0, 1)]), ([3], [], []), ([], [4], [])]:
            self.assertIs(shows_kind_bound(now, wish, kinds, 0, value), True)
            self.assertIs(shows_kind_bound(now, wish, kinds, 1, value), False)
        self.assertIs(shows_kind_bound(now, wish, kinds, 0, ([], [], [])), False)
        self.assertIs(shows_kind_bound(now, wish, kinds, 3, ([0, 4], [3], [(0, 1)])), True)

    def test_wrong_values(self):
        now, wish, kinds = [0, 1, 2, 3, 6, 8, 9], [1, 0, 3, 2, 2, None, 9], "rrmmmrr"
        cells, values, ways = right = ([0, 1, 2, 3, 4], [2, 3], [(0, 1)])
        self.assertIs(shows_kind_bound(now, wish, kinds, 2, right), True)
        others = [list(right), right[:2], (*right, []), (), (values, cells, ways), ("count", *right), (right,)]
        others += [(told, values, ways) for told in
                   [(0, 1, 2, 3, 4), [1, 0], [0, 0, 1], [5], [6], [7], [-1], [False, True, 2], [0, True], [None], "01",
                    None, 5, {}, [(0, 1)], [0, "1"], [HUGE], [MoveError("a")]]]
        others += [(cells, told, ways) for told in
                   [(2, 3), [3, 2], [2, 2], [0], [1], [4], [True], [None], ["2"], None, "", {}, 2, [(2,)], [[2]],
                    [HUGE]]]
        others += [(cells, values, told) for told in
                   [((0, 1),), (0, 1), [(0, 1), (0, 1)], [(1, 0)], [(2, 3)], [(0, 1), (2, 3)], [[0, 1]],
                    [(False, True)], [(0, True)], [()], [(0,)], [0, 1], None, "", {}, 1, [None], [(0, 1, 0)],
                    [("0", "1")]]]
        for value in others + ANYTHING:
            with self.subTest(value=str(value)[:80]):
                self.assertIs(shows_kind_bound(now, wish, kinds, 2, value), False)

    def test_bools_are_no_values(self):
        now, wish, kinds = [0, 1, 5, 8, 9], [1, 0, 0, None, None], "mmmrr"
        self.assertIs(shows_kind_bound(now, wish, kinds, 1, ([], [0, 1], [])), True)
        self.assertIs(shows_kind_bound(now, wish, kinds, 1, ([], [False, True], [])), False)
        self.assertIs(shows_kind_bound(now, wish, kinds, 1, ([False, True], [], [])), False)

    def test_shown_exactly_up_to_the_fewest(self):
        for kinds in ("rmrrr", "mmrrr", "mmmrr", "rrrrr"):
            now = [0, 1, 2, 3, 4]
            least = least_of_wishes(now, kind_deeds(kinds), 2)
            for wish in itertools.product([None, 0, 1, 2], repeat=3):
                wish = [*wish, None, None]
                value = (wrong_ones(now, wish), loads(now, wish, kinds), bound_rows(now, wish, kinds))
                for number in range(8):
                    shown = shows_kind_bound(now, wish, kinds, number, value)
                    self.assertIs(shown, number < least[tuple(wish)])


if __name__ == "__main__":
    unittest.main()
