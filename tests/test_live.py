"""[28], [29]: cells that live."""

import copy
import inspect
import itertools
import random
import unittest

from tests.samples import ANYTHING, HUGE, NO_STEPS, TOP, bad_cell, bad_now, bad_wish
from tests.words import row_behind, ticks_behind
from valuesmoved.errors import InvalidCell, InvalidKept, InvalidNow, InvalidRow, InvalidTicks, InvalidWish, Lost
from valuesmoved.errors import Missing, MoveError, NoMoves, NothingToUndo
from valuesmoved.fewest import some_moves
from valuesmoved.live import Cells, CountingCells, KeepingCells, KeepingCountingCells
from valuesmoved.ticks import is_ticks

# Sixty values of thirty figures each.
LONG = [(-1) ** cell * (10 ** 29 + 10 ** 27 * cell + 7) for cell in range(60)]
KEEPING = (KeepingCells, KeepingCountingCells)
COUNTING = (CountingCells, KeepingCountingCells)
CLASSES = (Cells, KeepingCells, CountingCells, KeepingCountingCells)
# What is no tick of the width 3 for three cells.
NO_MOVES = [
    [], [(0, 0)], [(0, 3)], [(3, 0)], [(-1, 0)], [(0, -1)], [(0, 1), (2, 1)], [(0, 1), (0, 1)],
    [(0, 1), (1, 2), (0, 2)], [(0, 1), (1, 0), (0, 2), (1, 2)], [(0, True)], [(False, 1)], [[0, 1]],
    [(0,)], [(0, 1, 2)], [("move", 0, 1)], [(0, 1), None], ((0, 1),), (0, 1), [0, 1], [("0", 1)], [(0, "1")],
    [(HUGE, 0)], [[(0, 1)]], {(0, 1): 1},
]


def made(one, now, kept=()):
    """An object of a class, with its kept values where the class has them."""
    return one(now, list(kept)) if one in KEEPING else one(now)


def done(desk, deed):
    """A deed, told as it stands among the deeds."""
    word, *told = deed
    if word == "undo":
        return desk.undo()
    return getattr(desk, word)(*told)


class Checks(unittest.TestCase):
    def raised(self, function, *arguments):
        """The error with its fields; whatever object it is, nothing is changed in it."""
        desk = getattr(function, "__self__", None)
        before = self.told(desk)
        with self.assertRaises(MoveError) as caught:
            function(*arguments)
        self.assertEqual(self.told(desk), before)
        return type(caught.exception), vars(caught.exception)

    def told(self, desk):
        """All that an object tells."""
        if not isinstance(desk, Cells):
            return None
        return desk.contents, desk.deeds, desk.lost, len(desk), desk.described()


class CellsTest(Checks):
    def test_example(self):
        desk = CountingCells([1, 2, 9])
        found = [desk.move(0, 2), desk.at_once([(1, 0), (2, 1)]), desk.writes, desk.lost, desk.deeds, desk.undo(),
                 desk.contents, len(desk), desk.tried(("swap", 0, 1), ("move", 2, 0))]
        self.assertEqual(found, [[1, 2, 1], [2, 1, 1], [1, 1, 1], [9],
                                 [("move", 0, 2), ("at_once", [(1, 0), (2, 1)])], None, [1, 2, 1], 1, [1, 1, 1]])
        found = [Cells([1]) == CountingCells([1]), Cells([1, 2]).plan([2, 2]), KeepingCells([1, 2], [2]).described()]
        self.assertEqual(found, [False, [("move", 1, 0)], ([1, 2], 0, [2], None)])
        self.assertEqual(self.raised(KeepingCells([1, 2, 9], [1, 2]).move, 2, 0), (Lost, {"value": 1}))

    def test_as_rows_and_ticks_say(self):
        chance = random.Random(43)
        for one, cells in itertools.product(CLASSES, (2, 3, 5, 60)):
            now = chance.sample(LONG, cells)
            self.check_deeds(made(one, now), now, self.some_deeds(chance, cells, 60))

    def some_deeds(self, chance, cells, many):
        """Deeds, and some that take back others."""
        deeds = []
        for _ in range(many):
            word = chance.choice(["move", "swap", "at_once", "at_once", "move", "undo"])
            if word == "at_once":
                targets = chance.sample(range(cells), chance.randint(1, min(3, cells)))
                deeds.append((word, [(chance.choice([a for a in range(cells) if a != b]), b) for b in targets]))
            else:
                deeds.append((word, *(chance.sample(range(cells), 2) if word != "undo" else [])))
        return deeds

    def check_deeds(self, desk, now, deeds):
        behind, left = [list(now)], []
        for deed in deeds:
            if deed[0] == "undo" and not left:
                self.assertEqual(self.raised(desk.undo)[0], NothingToUndo)
                continue
            answer = done(desk, deed)
            if deed[0] == "undo":
                self.assertIsNone(answer)
                behind.pop()
                left.pop()
            else:
                held = behind[-1]
                behind.append(ticks_behind(held, [deed[1]]) if deed[0] == "at_once" else row_behind(held, [deed]))
                left.append(deed)
                self.assertEqual(answer, behind[-1])
            self.check_told(desk, now, behind[-1], left)

    def check_told(self, desk, now, held, deeds):
        self.assertEqual([desk.contents, desk.deeds, len(desk)], [held, deeds, len(deeds)])
        self.assertEqual(desk.lost, sorted(set(now) - set(held)))
        counts = [0] * len(now)
        for word, *told in deeds:
            for cell in ([b for _, b in told[0]] if word == "at_once" else told[word == "move":]):
                counts[cell] += 1
        if type(desk) in COUNTING:
            self.assertEqual(desk.writes, counts)
        kept = [] if type(desk) in KEEPING else None
        self.assertEqual(desk.described(), (held, len(deeds), kept, counts if type(desk) in COUNTING else None))

    def some_swaps_and_moves(self, desk, many):
        """Does so many deeds; returns the contents ahead of each and behind the last one."""
        held = [desk.contents]
        for number in range(many):
            deed = desk.swap if number % 3 else desk.move
            held.append(deed(number % 60, (number * number + 1) % 60 if number % 60 != 1 else 0))
        return held

    def test_two_hundred_deeds(self):
        for one in CLASSES:
            desk = made(one, LONG)
            held = self.some_swaps_and_moves(desk, 200)
            self.assertEqual([len(desk), desk.contents, len(desk.deeds)], [200, held[-1], 200])
            twin = desk.twin()
            for number in range(200):
                self.assertEqual(twin.contents, held[-1 - number])
                twin.undo()
            self.assertEqual(self.told(twin), self.told(made(one, LONG)))
            self.assertEqual(len(desk), 200)

    def test_a_hundred_deeds_and_back(self):
        for one in CLASSES:
            desk = made(one, LONG)
            held = self.some_swaps_and_moves(desk, 100)
            for number in range(100):
                self.assertEqual(desk.contents, held[-1 - number])
                self.assertIsNone(desk.undo())
            self.assertEqual(self.told(desk), self.told(made(one, LONG)))
            self.assertEqual(self.raised(desk.undo)[0], NothingToUndo)

    def test_nothing_to_undo(self):
        for one in CLASSES:
            desk = made(one, [1, 2])
            self.assertEqual(self.raised(desk.undo)[0], NothingToUndo)
            desk.move(0, 1)
            desk.undo()
            self.assertEqual(self.raised(desk.undo)[0], NothingToUndo)
            desk.swap(0, 1)
            self.assertEqual([desk.undo(), desk.contents], [None, [1, 2]])

    def test_one_cell(self):
        for one in CLASSES:
            desk = made(one, [TOP])
            self.assertEqual([desk.contents, desk.deeds, desk.lost, len(desk), desk.plan([None]), desk.tried()],
                             [[TOP], [], [], 0, [], [TOP]])
            for function in (desk.move, desk.swap):
                self.assertEqual(self.raised(function, 0, 0)[0], InvalidCell)
            self.assertEqual(self.raised(desk.at_once, [(0, 0)]), (InvalidTicks, {"index": None}))

    def test_lost(self):
        for one in CLASSES:
            desk = made(one, [5, -1, 5, TOP, -TOP])
            desk.move(0, 3)
            self.assertEqual(desk.lost, [TOP])
            desk.at_once([(0, 1), (2, 4)])
            self.assertEqual(desk.lost, [-TOP, -1, TOP])
            desk.swap(0, 1)
            self.assertEqual(desk.lost, [-TOP, -1, TOP])
            desk.undo()
            desk.undo()
            self.assertEqual(desk.lost, [TOP])

    def test_tried(self):
        steps = [(word, a, b) for word in ("move", "swap") for a, b in itertools.permutations(range(3), 2)]
        for one in CLASSES:
            desk = made(one, [1, 2, 9])
            desk.move(0, 2)
            before = self.told(desk)
            for row in itertools.product(steps, repeat=2):
                self.assertEqual(desk.tried(*row), row_behind([1, 2, 1], row))
            self.assertEqual(desk.tried(*steps, *steps, *steps), row_behind([1, 2, 1], steps * 3))
            self.assertEqual(desk.tried(), [1, 2, 1])
            self.assertEqual(self.told(desk), before)

    def test_plan(self):
        for one in CLASSES:
            desk = made(one, [1, 2, 9, 9])
            desk.move(0, 2)
            for wish in ([2, 1, None, 9], [9, 9, 9, 9], [None] * 4, [1, 2, 1, 9], [2, 1, 9, 1]):
                self.assertEqual(desk.plan(wish), some_moves([1, 2, 1, 9], wish))
                self.assertEqual(desk.tried(*desk.plan(wish)), row_behind([1, 2, 1, 9], desk.plan(wish)))
            self.assertEqual(desk.contents, [1, 2, 1, 9])


class ErrorsTest(Checks):
    def test_contents(self):
        for one, kept in itertools.product(CLASSES, ([1], None)):
            for now, index in bad_now():
                arguments = (now, kept) if one in KEEPING else (now,)
                self.assertEqual(self.raised(one, *arguments), (InvalidNow, {"index": index}))

    def test_cells(self):
        for one in CLASSES:
            desk = made(one, [1, 2, 3])
            desk.move(0, 1)
            for function in (desk.move, desk.swap):
                for wrong, _ in bad_cell(3):
                    for arguments in [(wrong, 0), (0, wrong), (wrong, wrong), (wrong, 7)]:
                        self.assertEqual(self.raised(function, *arguments)[0], InvalidCell)
                for cell in range(3):
                    self.assertEqual(self.raised(function, cell, cell)[0], InvalidCell)

    def test_moves_at_once(self):
        for one in CLASSES:
            desk = made(one, [1, 2, 3])
            desk.move(0, 1)
            for wrong in NO_MOVES + ANYTHING:
                self.assertEqual(self.raised(desk.at_once, wrong), (InvalidTicks, {"index": None}), wrong)
                self.assertIs(is_ticks(3, 3, [wrong]), False)
            self.assertEqual(desk.at_once([(0, 1), (1, 2), (2, 0)]), [3, 1, 1])

    def test_three_moves_at_once_and_no_more(self):
        moves = [(0, 1), (1, 2), (2, 3), (3, 4), (4, 0)]
        for one in CLASSES:
            desk = made(one, [1, 2, 3, 4, 5])
            for many in (0, 4, 5):
                self.assertEqual(self.raised(desk.at_once, moves[:many]), (InvalidTicks, {"index": None}))
            self.assertEqual(desk.at_once(moves[:3]), [1, 1, 2, 3, 5])
            self.assertEqual(desk.at_once(moves[3:]), [5, 1, 2, 3, 3])
            self.assertEqual(desk.at_once(moves[2:3]), [5, 1, 2, 2, 3])

    def test_steps(self):
        right = ("move", 0, 1)
        for one in CLASSES:
            desk = made(one, [1, 2, 3], [2])
            for wrong in NO_STEPS:
                for steps, index in [((wrong,), 0), ((right, wrong, wrong), 1), ((*[right] * 150, wrong, right), 150)]:
                    # Ahead of what would be lost by the steps before.
                    self.assertEqual(self.raised(desk.tried, *steps), (InvalidRow, {"index": index}))
            self.assertEqual(self.raised(desk.tried, [right]), (InvalidRow, {"index": 0}))

    def test_plans(self):
        for one in CLASSES:
            desk = made(one, [1, 2, 3])
            desk.swap(0, 1)
            for wish, index in bad_wish():
                self.assertEqual(self.raised(desk.plan, wish), (InvalidWish, {"index": index}))
            self.assertEqual(self.raised(desk.plan, [9, -9, None]), (Missing, {"value": -9}))
            self.assertEqual(self.raised(desk.plan, [1, 2, 3])[0], NoMoves)

    def test_kept(self):
        now = [1, 2, 2, -5, 0]
        for one in KEEPING:
            for right in ([], [1], [-5, 0, 1, 2], [0, 2]):
                self.assertEqual(one(now, right).described()[2], right)
            wrong = [[3], [1, 3], [2, 1], [1, 1], [2, 2], [1, 0], [True], [False], [0, True], [None], ["1"], [[1]],
                     [(1,)], (1, 2), (), {}, {"1": 1}, "1", 1, 0, [HUGE], [-5, 0, 1, 2, HUGE], [1, None], [1, True],
                     now, [MoveError("a")]]
            for kept in wrong + [value for value in ANYTHING if value != []]:
                self.assertEqual(self.raised(one, now, kept)[0], InvalidKept, kept)
            self.assertEqual(self.raised(one, [], [3]), (InvalidNow, {"index": None}))
            self.assertEqual(self.raised(one, [1, None], [3]), (InvalidNow, {"index": 1}))
            self.assertEqual(one([TOP, -TOP], [-TOP, TOP]).described()[2], [-TOP, TOP])


class KeepingTest(Checks):
    def test_lost_by_a_move(self):
        for one in KEEPING:
            desk = one([1, 2, 2, 9], [1, 2])
            self.assertEqual(self.raised(desk.move, 1, 0), (Lost, {"value": 1}))
            self.assertEqual(desk.move(0, 1), [1, 1, 2, 9])
            self.assertEqual(self.raised(desk.move, 0, 2), (Lost, {"value": 2}))
            self.assertEqual(desk.move(2, 3), [1, 1, 2, 2])
            self.assertEqual(desk.move(3, 0), [2, 1, 2, 2])
            self.assertEqual(self.raised(desk.move, 0, 1), (Lost, {"value": 1}))
            self.assertEqual(desk.undo(), None)
            self.assertEqual(desk.move(0, 2), [1, 1, 1, 2])
            self.assertEqual(desk.lost, [9])

    def test_never_lost_by_a_swap(self):
        for one in KEEPING:
            desk = one([1, 2, 3], [1, 2, 3])
            for cell, other in itertools.permutations(range(3), 2):
                desk.swap(cell, other)
            self.assertEqual(sorted(desk.contents), [1, 2, 3])

    def test_lost_by_a_tick(self):
        for one in KEEPING:
            desk = one([3, 1, 2, 9, 8], [1, 2, 3, 8])
            self.assertEqual(self.raised(desk.at_once, [(3, 0), (3, 1), (3, 2)]), (Lost, {"value": 1}))
            self.assertEqual(self.raised(desk.at_once, [(4, 0), (0, 4), (3, 2)]), (Lost, {"value": 2}))
            self.assertEqual(self.raised(desk.at_once, [(3, 4), (3, 0)]), (Lost, {"value": 3}))
            self.assertEqual(desk.at_once([(0, 1), (1, 2), (2, 0)]), [2, 3, 1, 9, 8])
            self.assertEqual(desk.at_once([(4, 3), (3, 4)]), [2, 3, 1, 8, 9])
            self.assertEqual(desk.at_once([(3, 4)]), [2, 3, 1, 8, 8])

    def test_lost_by_a_tried_step(self):
        for one in KEEPING:
            desk = one([1, 2, 9], [1, 2])
            self.assertEqual(self.raised(desk.tried, ("move", 0, 1)), (Lost, {"value": 2}))
            # It does not help that others are lost behind it, or that it would be gone anyway.
            steps = [("move", 0, 1), ("move", 2, 0), ("move", 2, 1)]
            self.assertEqual(self.raised(desk.tried, *steps), (Lost, {"value": 2}))
            self.assertEqual(self.raised(desk.tried, ("move", 2, 0), ("move", 2, 1)), (Lost, {"value": 1}))
            self.assertEqual(self.raised(desk.tried, ("swap", 0, 2), ("move", 0, 2)), (Lost, {"value": 1}))
            self.assertEqual(desk.tried(("move", 0, 2), ("move", 1, 0), ("move", 2, 1)), [2, 1, 1])
            self.assertEqual(desk.tried(*[("swap", 0, 1)] * 3), [2, 1, 9])
            self.assertEqual(self.raised(desk.tried, ("move", 0, 1), ("move", 0, 0)), (InvalidRow, {"index": 1}))

    def test_behind_all_other_errors(self):
        for one in KEEPING:
            desk = one([1, 2, 9], [1, 2, 9])
            self.assertEqual(self.raised(desk.move, 0, 3)[0], InvalidCell)
            self.assertEqual(self.raised(desk.move, 0, 0)[0], InvalidCell)
            self.assertEqual(self.raised(desk.swap, 3, 0)[0], InvalidCell)
            self.assertEqual(self.raised(desk.at_once, [(0, 1), (2, 1)]), (InvalidTicks, {"index": None}))
            self.assertEqual(self.raised(desk.move, 0, 1), (Lost, {"value": 2}))

    def test_what_is_not_kept_may_be_lost(self):
        for one in KEEPING:
            desk = one([1, 2, 9], [2])
            self.assertEqual([desk.move(1, 0), desk.move(1, 2), desk.lost], [[2, 2, 9], [2, 2, 2], [1, 9]])
            self.assertEqual(one([1, 2], []).at_once([(0, 1)]), [1, 1])

    def test_plans_do_not_ask_what_is_kept(self):
        for one in KEEPING:
            self.assertEqual(one([1, 2], [1, 2]).plan([2, None]), [("move", 1, 0)])

    def test_sixty_cells(self):
        for one in KEEPING:
            desk = one(LONG, sorted(LONG))
            for cell, other in itertools.permutations(range(60), 2):
                self.assertEqual(self.raised(desk.move, cell, other), (Lost, {"value": LONG[other]}))
                break
            self.assertEqual(self.raised(desk.at_once, [(0, 1), (0, 2), (0, 3)]), (Lost, {"value": min(LONG[1:4])}))
            desk.at_once([(58, 59), (59, 58)])
            self.assertEqual(desk.contents, [*LONG[:58], LONG[59], LONG[58]])


class CountingTest(Checks):
    def test_writes(self):
        for one in COUNTING:
            desk = made(one, [1, 2, 3, 4])
            self.assertEqual(desk.writes, [0, 0, 0, 0])
            desk.move(0, 1)
            desk.swap(1, 2)
            desk.at_once([(0, 1), (1, 2), (0, 3)])
            # Also a cell that is written with what it holds.
            desk.at_once([(0, 1)])
            self.assertEqual(desk.writes, [0, 4, 2, 1])
            desk.tried(("move", 0, 1))
            self.raised(desk.move, 0, 0)
            self.assertEqual(desk.writes, [0, 4, 2, 1])
            desk.undo()
            desk.undo()
            self.assertEqual(desk.writes, [0, 2, 1, 0])

    def test_others_have_none(self):
        for one in (Cells, KeepingCells):
            self.assertFalse(hasattr(one, "writes"))
            self.assertIsNone(made(one, [1]).described()[3])


class EqualityTest(Checks):
    def test_same_class_arguments_and_deeds(self):
        for one, other in itertools.product(CLASSES, repeat=2):
            first, second = made(one, [1, 2]), made(other, [1, 2])
            self.assertIs(first == second, one is other)
            self.assertIs(first != second, one is not other)

    def test_other_arguments(self):
        for one in CLASSES:
            self.assertFalse(made(one, [1, 2]) == made(one, [1, 3]))
            self.assertFalse(made(one, [1, 2]) == made(one, [1, 2, 2]))
            # What stands there now does not count.
            first, second = made(one, [1, 2]), made(one, [1, 3])
            first.move(0, 1)
            second.move(0, 1)
            self.assertEqual(first.contents, second.contents)
            self.assertFalse(first == second)
        for one in KEEPING:
            self.assertTrue(one([1, 2], [1]) == one([1, 2], [1]))
            self.assertFalse(one([1, 2], [1]) == one([1, 2], [2]))
            self.assertFalse(one([1, 2], [1]) == one([1, 2], []))

    def test_other_deeds(self):
        deeds = [("move", 0, 1), ("move", 1, 0), ("swap", 0, 1), ("swap", 1, 0), ("at_once", [(0, 1)]),
                 ("at_once", [(0, 1), (1, 0)]), ("at_once", [(1, 0), (0, 1)])]
        for one in CLASSES:
            for first, second in itertools.product(deeds, repeat=2):
                ours, theirs = made(one, [7, 7]), made(one, [7, 7])
                done(ours, first)
                self.assertFalse(ours == theirs)
                done(theirs, second)
                self.assertIs(ours == theirs, first == second)
                ours.undo()
                theirs.undo()
                self.assertTrue(ours == theirs)

    def test_nothing_else(self):
        for one in CLASSES:
            desk = made(one, [1])
            for value in ANYTHING + [object(), [desk], (desk,)]:
                self.assertIs(desk == value, False)
                self.assertIs(value == desk, False)
                self.assertIs(desk != value, True)
            self.assertIs(desk == desk, True)

    def test_a_class_under_it_is_another_one(self):
        class Under(Cells):
            pass
        self.assertFalse(Under([1]) == Cells([1]))
        self.assertFalse(Cells([1]) == Under([1]))


class IndependenceTest(Checks):
    def test_twins(self):
        for one in CLASSES:
            first = made(one, [1, 2, 9], [1, 2])
            first.move(0, 2)
            first.at_once([(1, 0), (2, 1)])
            twin = first.twin()
            self.assertIs(type(twin), one)
            self.assertTrue(twin == first)
            self.assertEqual(self.told(twin), self.told(first))
            self.check_apart(first, twin)
            self.check_apart(twin, first)
            self.assertEqual(first.twin().twin(), first)

    def check_apart(self, one, other):
        before = self.told(other)
        one.undo()
        one.swap(0, 1)
        one.undo()
        one.undo()
        self.assertEqual(one.contents, [1, 2, 9])
        self.assertEqual(self.told(other), before)
        one.move(0, 2)
        one.at_once([(1, 0), (2, 1)])
        self.assertTrue(one == other)

    def test_twins_keep_and_count(self):
        for one in KEEPING:
            twin = one([1, 2, 9], [1]).twin()
            self.assertEqual(self.raised(twin.move, 1, 0), (Lost, {"value": 1}))
        for one in COUNTING:
            desk = made(one, [1, 2])
            desk.move(0, 1)
            twin = desk.twin()
            twin.move(0, 1)
            self.assertEqual([desk.writes, twin.writes], [[0, 1], [0, 2]])

    def test_a_twin_undoes_all(self):
        for one in CLASSES:
            desk = made(one, [1, 2, 3])
            for deed in [("swap", 0, 1), ("move", 1, 2), ("at_once", [(0, 1)])]:
                done(desk, deed)
            twin = desk.twin()
            for _ in range(3):
                twin.undo()
            self.assertEqual(self.raised(twin.undo)[0], NothingToUndo)
            self.assertEqual([twin.contents, desk.contents], [[1, 2, 3], [2, 2, 1]])

    def test_what_is_told_can_be_changed(self):
        for one in CLASSES:
            desk = made(one, [1, 2, 9], [1])
            answers = [desk.move(0, 2), desk.swap(0, 1), desk.at_once([(0, 1), (2, 0)]), desk.move(0, 2)]
            before = copy.deepcopy(self.told(desk))
            answers += [desk.contents, desk.deeds, desk.lost, desk.tried(), desk.tried(("swap", 0, 1)),
                        desk.plan([None, 1, 2]), *desk.described()]
            answers += [desk.writes] if one in COUNTING else []
            answers += [deed[1] for deed in desk.deeds if deed[0] == "at_once"]
            for found in answers:
                if isinstance(found, list):
                    found.append("more")
                    found[0] = "less"
            self.assertEqual(self.told(desk), before)
            desk.undo()
            self.assertEqual(desk.contents, [1, 2, 1])

    def test_what_was_passed_can_be_changed(self):
        for one in CLASSES:
            now, kept, moves = [1, 2, 9], [1], [(0, 1), (2, 0)]
            desk = one(now, kept) if one in KEEPING else one(now)
            now[0] = 7
            now.append(5)
            kept.clear()
            self.assertEqual(desk.contents, [1, 2, 9])
            desk.at_once(moves)
            self.assertEqual(moves, [(0, 1), (2, 0)])
            moves.clear()
            self.assertEqual([desk.deeds, desk.contents], [[("at_once", [(0, 1), (2, 0)])], [9, 1, 9]])
            self.assertEqual(desk.described()[2], [1] if one in KEEPING else None)

    def test_two_objects(self):
        for one in CLASSES:
            now = [1, 2]
            first, second = made(one, now), made(one, now)
            first.move(0, 1)
            self.assertEqual([first.contents, second.contents, now], [[1, 1], [1, 2], [1, 2]])


class InterfaceTest(unittest.TestCase):
    def test_each_class_has_its_own(self):
        for one, names in [(Cells, ["__init__", "move", "swap", "at_once", "undo", "plan", "tried", "twin", "contents",
                                    "deeds", "lost", "__len__", "__eq__", "described"]),
                           (KeepingCells, ["__init__", "move", "swap", "at_once", "tried", "described"]),
                           (CountingCells, ["__init__", "writes", "described"]),
                           (KeepingCountingCells, ["__init__", "described"])]:
            self.assertEqual([name for name in names if name not in vars(one)], [])
            self.assertEqual(one.__module__, "valuesmoved.live")

    def test_which_stands_under_which(self):
        self.assertEqual([one.__bases__ for one in CLASSES],
                         [(object,), (Cells,), (Cells,), (KeepingCells, CountingCells)])

    def test_names_of_parameters(self):
        for one in CLASSES:
            for method, names in [(one.move, ["cell", "other"]), (one.swap, ["cell", "other"]),
                                  (one.at_once, ["moves"]), (one.plan, ["wish"]), (one.tried, ["steps"]),
                                  (one.undo, []), (one.twin, []), (one.described, []),
                                  (one.__init__, ["now", "kept"] if one in KEEPING else ["now"])]:
                self.assertEqual(list(inspect.signature(method).parameters)[1:], names)
            desk = one(now=[1, 2], kept=[1]) if one in KEEPING else one(now=[1, 2])
            self.assertEqual([desk.swap(other=0, cell=1), desk.at_once(moves=[(0, 1), (1, 0)]),
                              desk.move(other=1, cell=0), desk.plan(wish=[1, 1])], [[2, 1], [1, 2], [1, 1], []])

    def test_properties(self):
        for one in CLASSES:
            for name in ["contents", "deeds", "lost"] + (["writes"] if one in COUNTING else []):
                self.assertIsInstance(inspect.getattr_static(one, name), property)


if __name__ == "__main__":
    unittest.main()
