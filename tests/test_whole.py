"""What the functions of all modules tell of one content fits together, as points 4 to 13 say."""

import itertools
import math
import random
import unittest

from tests.samples import TOP
from valuesmoved.cells import free_cells, is_done, is_now, is_wish, missing, needed, wrong_cells
from valuesmoved.changes import best_drops, fewest_with, unlocking, with_copy, with_free
from valuesmoved.console import Console
from valuesmoved.counts import nth_costing
from valuesmoved.errors import MoveError
from valuesmoved.fewest import fewest_moves, first_moves, refusal, shows_refusal, some_moves
from valuesmoved.kinds import bound_rows, does_kinds, fewest_kind_moves, loads, some_kind_moves
from valuesmoved.live import Cells, CountingCells, KeepingCells
from valuesmoved.orders import count_first, count_orders, is_order, nth_order, order_row
from valuesmoved.powers import fewest_for, power_of
from valuesmoved.rings import back_cells, rings, spare_cells
from valuesmoved.rows import after_row, does, is_row, lost, same_rows, sources_of, turned
from valuesmoved.small import fewest_by_trying, reachable
from valuesmoved.swaps import are_ways, fewest_steps, fewest_swaps, some_steps, some_swaps, some_ways
from valuesmoved.texts import format_now, format_row, format_wish, parse_now, parse_row, parse_wish
from valuesmoved.ticks import does_ticks, fewest_ticks, some_ticks


def some_wishes(seed, many, sizes, repeated=True):
    """Contents and wishes of all kinds: values held twice, missing, rings, free cells."""
    chance = random.Random(seed)
    for _ in range(many):
        cells = chance.choice(sizes)
        values = chance.sample(range(-200, 200), cells)
        now = chance.choices(values, k=cells) if repeated and chance.random() < 0.4 else list(values)
        wish = list(now)
        moved = chance.sample(range(cells), chance.randint(0, cells))
        for cell, other in zip(moved, moved[1:]):
            wish[cell], wish[other] = wish[other], wish[cell]
        for cell in chance.sample(range(cells), chance.choice([0, 0, cells // 3, cells // 2])):
            wish[cell] = chance.choice([*now, None, 999 if chance.random() < 0.2 else None])
        yield now, wish


def told_of(function, *arguments):
    """What a function tells, or the kind of the error with its fields."""
    try:
        return function(*arguments)
    except MoveError as error:
        return type(error), vars(error)


class RowsTest(unittest.TestCase):
    def test_plans_done_deed_by_deed(self):
        for now, wish in some_wishes(61, 60, (1, 2, 3, 5, 9, 30, 60)):
            number = fewest_moves(now, wish)
            if number is not None:
                desk = CountingCells(now)
                for left, (_, source, target) in enumerate(desk.plan(wish)):
                    if len(now) < 30:
                        self.assertIn((source, target), first_moves(desk.contents, wish))
                    self.assertEqual(fewest_moves(desk.contents, wish), number - left)
                    desk.move(source, target)
                self.assertTrue(is_done(desk.contents, wish))
                self.assertEqual([len(desk), sum(desk.writes)], [number, number])
                self.assertEqual(desk.deeds, some_moves(now, wish))
                self.assertEqual(desk.lost, lost(now, desk.deeds))
                self.assertEqual(after_row(now, desk.deeds), desk.contents)

    def test_each_first_move_leads_on(self):
        for now, wish in some_wishes(67, 60, (2, 3, 4, 6)):
            number = fewest_moves(now, wish)
            if number:
                moves = first_moves(now, wish)
                self.assertIn(some_moves(now, wish)[0][1:], moves)
                for a, b in itertools.permutations(range(len(now)), 2):
                    left = fewest_moves(Cells(now).move(a, b), wish)
                    self.assertEqual((a, b) in moves, left == number - 1)

    def test_rows_and_refusals(self):
        for now, wish in some_wishes(71, 150, (1, 2, 3, 5, 9, 30, 60)):
            number = fewest_moves(now, wish)
            for enough in range(0, 2 * len(now), max(1, len(now) // 3)):
                paper = refusal(now, wish, enough)
                self.assertEqual(paper is None, number is not None and number <= enough)
                self.assertIs(shows_refusal(now, wish, enough, paper), paper is not None)

    def test_written_and_read(self):
        for now, wish in some_wishes(73, 80, (1, 2, 3, 9, 60)):
            self.assertEqual(parse_now(format_now(now)), now)
            self.assertEqual(parse_wish(now, format_wish(now, wish)), wish)
            for plan in (some_moves, some_steps):
                row = told_of(plan, now, wish)
                if isinstance(row, list):
                    again = parse_row(len(now), format_row(len(now), row))
                    self.assertEqual(again, row)
                    self.assertIs(does(now, wish, again), True)
                    self.assertIs(is_row(len(now), again), True)

    def test_deeds_one_by_one_as_ticks_and_rows(self):
        for now, wish in some_wishes(79, 60, (2, 3, 5, 9, 30)):
            for width in (1, 2, 3):
                ticks = told_of(some_ticks, now, wish, width)
                if isinstance(ticks, list):
                    desk = Cells(now)
                    for left, tick in enumerate(ticks):
                        self.assertEqual(fewest_ticks(desk.contents, wish, width), len(ticks) - left)
                        desk.at_once(tick)
                    self.assertTrue(is_done(desk.contents, wish))
                    self.assertIs(does_ticks(now, wish, width, ticks), True)
            row = told_of(some_steps, now, wish)
            if isinstance(row, list):
                self.assertTrue(is_done(Cells(now).tried(*row), wish))

    def test_swaps_lead_back(self):
        for now, wish in some_wishes(83, 60, (2, 3, 5, 8)):
            row = told_of(some_swaps, now, wish)
            if isinstance(row, list):
                self.assertEqual(len(row), fewest_swaps(now, wish))
                self.assertEqual(len(row), fewest_steps(now, wish))
                self.assertEqual([KeepingCells(now, sorted(set(now))).tried(*row), lost(now, row)], [wish, []])
                back = turned(len(now), row)
                self.assertEqual([wish[source] for source in back], now)
                sources = sources_of(len(now), row)
                self.assertEqual([sources[source] for source in back], list(range(len(now))))
                self.assertIs(same_rows(len(now), row, [*row, *row[::-1], *row], list(range(len(now)))), True)


class NumbersTest(unittest.TestCase):
    def test_facts_of_moves(self):
        for now, wish in some_wishes(89, 200, (1, 2, 3, 5, 9, 30, 60)):
            wrong, found = wrong_cells(now, wish), rings(now, wish)
            if missing(now, wish) is not None:
                expected = None
            elif not found or spare_cells(now, wish):
                expected = len(wrong) + len(found)
            else:
                expected = len(wrong) + len(found) + 1 if back_cells(now, wish) else None
            self.assertEqual(fewest_moves(now, wish), expected)
            self.assertEqual(fewest_ticks(now, wish, 1), expected)
            self.assertEqual(set(needed(now, wish)), {wish[cell] for cell in wrong})
            self.assertEqual([cell for cell, item in enumerate(wish) if item is None], free_cells(now, wish))
            self.assertTrue(is_now(now) and is_wish(now, wish))

    def test_steps_save_closed_ways(self):
        for now, wish in some_wishes(97, 100, (1, 2, 3, 5, 8)):
            ways = some_ways(now, wish)
            self.assertIs(are_ways(now, wish, ways), True)
            self.assertIs(are_ways(now, wish, rings(now, wish)), True)
            if missing(now, wish) is None:
                self.assertEqual(fewest_steps(now, wish), len(wrong_cells(now, wish)) - len(ways))

    def test_by_trying(self):
        for now, wish in some_wishes(101, 60, (1, 2, 3, 4, 5)):
            self.assertEqual(fewest_by_trying(now, wish, "r" * len(now)), fewest_moves(now, wish))
            done = [held for held in reachable(now, "r" * len(now)) if is_done(held, wish)]
            self.assertEqual(bool(done), fewest_moves(now, wish) is not None)

    def test_orders_done_as_rows(self):
        for now, wish in some_wishes(103, 150, (1, 2, 3, 5, 9, 30, 60)):
            number = told_of(count_orders, now, wish)
            if not isinstance(number, int):
                continue
            wrong = wrong_cells(now, wish)
            self.assertEqual(number > 0, not rings(now, wish))
            self.assertEqual(sum(count_first(now, wish, cell) for cell in range(len(now))), number if wrong else 0)
            if number:
                self.assertEqual(fewest_moves(now, wish), len(wrong))
                # The shortest row writes each cell just once.
                self.assertIs(is_order(now, wish, [target for _, _, target in some_moves(now, wish)]), True)
                for index in {0, number // 2, number - 1}:
                    row = order_row(now, wish, nth_order(now, wish, index))
                    self.assertIs(does(now, wish, row), True)
                    self.assertEqual(len(row), len(wrong))

    def test_kinds_cost_the_same_or_more(self):
        chance = random.Random(107)
        for now, wish in some_wishes(109, 80, (2, 3, 5, 9, 30), repeated=False):
            now, wish = [*now, 900, 901], [*wish, None, None]
            kinds = "".join(chance.choices("rm", k=len(now) - 2)) + "rr"
            row = told_of(some_kind_moves, now, wish, kinds)
            if isinstance(row, list):
                self.assertIs(does_kinds(now, wish, kinds, row), True)
                self.assertIs(does(now, wish, row), True)
                more = len(loads(now, wish, kinds)) + len(bound_rows(now, wish, kinds))
                self.assertEqual(len(row), len(wrong_cells(now, wish)) + more)
                self.assertGreaterEqual(len(row), fewest_moves(now, wish))
                self.assertEqual(fewest_kind_moves(now, wish, "r" * len(now)), fewest_moves(now, wish))

    def test_source_lists(self):
        chance = random.Random(113)
        for cells in (1, 2, 5, 20, 60):
            now = [TOP - cell for cell in range(cells)]
            for _ in range(5):
                sources = chance.choices(range(cells), k=cells)
                for turns in (0, 1, 7, TOP):
                    wish = [now[source] for source in power_of(sources, turns)]
                    self.assertEqual(fewest_for(sources, 0, turns), fewest_moves(now, wish))
                    self.assertEqual(fewest_for(sources, 3, turns), with_free(now, wish, 3))
                if fewest_for(sources, 0, 1) is not None:
                    row = some_moves(now, [now[source] for source in sources])
                    self.assertEqual(sources_of(cells, row), sources)
        for number, index in [(3, 4), (5, 5), (6, 2)]:
            self.assertEqual(fewest_for(nth_costing(4, 1, number, index), 1, 1), number)


class ChangesTest(unittest.TestCase):
    def test_changed_wishes(self):
        for now, wish in some_wishes(127, 100, (1, 2, 3, 5, 9, 30)):
            numbers = {cell: fewest_with(now, wish, cell, None) for cell in range(len(now)) if wish[cell] is not None}
            best, cells = best_drops(now, wish)
            self.assertEqual(cells, [cell for cell, number in numbers.items() if number == best and best is not None])
            done = [number for number in numbers.values() if number is not None]
            self.assertEqual(best, min(done) if done else None)
            self.assertEqual(with_free(now, wish, 0), fewest_moves(now, wish))
            self.assertEqual(with_free(now, wish, 2), fewest_moves([*now, 5000], [*wish, None]))
            for value in {*now, *[item for item in wish if item is not None]}:
                self.assertEqual(with_copy(now, wish, value), fewest_moves([*now, value], [*wish, None]))
            unlocked = [None if cell in unlocking(now, wish) else item for cell, item in enumerate(wish)]
            self.assertEqual(rings(now, unlocked), [])
            if missing(now, unlocked) is None:
                self.assertEqual(fewest_moves(now, unlocked), len(wrong_cells(now, unlocked)))


class OtherContentsTest(unittest.TestCase):
    def answers(self, now, wish):
        """What does not depend on the sequence of cells, nor on the values."""
        found = [len(wrong_cells(now, wish)), sorted(len(ring) for ring in rings(now, wish)),
                 len(spare_cells(now, wish)), len(back_cells(now, wish)), fewest_moves(now, wish)]
        found += [fewest_ticks(now, wish, width) for width in (1, 2, 3)]
        found += [with_free(now, wish, 1), best_drops(now, wish)[0], len(unlocking(now, wish))]
        found += [kind_of(told_of(function, now, wish)) for function in (fewest_steps, fewest_swaps, count_orders)]
        # Two idle registers beside the cells.
        more = [*now, 777, 778], [*wish, None, None], ("rm" * len(now))[:len(now)] + "rr"
        return found + [kind_of(told_of(fewest_kind_moves, *more))]

    def test_cells_in_another_sequence(self):
        chance = random.Random(131)
        for now, wish in some_wishes(137, 100, (2, 3, 5, 8)):
            places = chance.sample(range(len(now)), len(now))
            moved = [now[place] for place in places], [wish[place] for place in places]
            self.assertEqual(self.answers(*moved)[:-1], self.answers(now, wish)[:-1])
            ways = [tuple(sorted(places.index(cell) for cell in ring)) for ring in rings(now, wish)]
            self.assertEqual(sorted(tuple(sorted(ring)) for ring in rings(*moved)), sorted(ways))

    def test_other_values(self):
        chance = random.Random(139)
        for now, wish in some_wishes(149, 100, (2, 3, 5, 8)):
            values = sorted({*now, *wish} - {None})
            others = dict(zip(values, [item * TOP // 1000 for item in chance.sample(range(-1000, 1000), len(values))]))
            changed = [others[item] for item in now], [None if item is None else others[item] for item in wish]
            self.assertEqual(self.answers(*changed), self.answers(now, wish))
            for function in (wrong_cells, rings, spare_cells, back_cells, unlocking, best_drops):
                self.assertEqual(function(*changed), function(now, wish))
            # Values in the same sequence, so that the same row is told, too.
            ascending = [2 * item + 7 for item in now], [None if item is None else 2 * item + 7 for item in wish]
            for function in (some_moves, some_steps, first_moves):
                ours, theirs = told_of(function, now, wish), told_of(function, *ascending)
                self.assertEqual(type(ours), type(theirs))
                if isinstance(ours, list):
                    self.assertEqual(len(ours), len(theirs))

    def test_contents_beside_one_another(self):
        pairs = list(some_wishes(151, 60, (1, 2, 3, 4), repeated=False))
        for (now, wish), (more, others) in zip(pairs, pairs[1:]):
            shift = len(now)
            # Values of their own.
            more, others = [item + 5000 for item in more], [None if item is None else item + 5000 for item in others]
            both = now + more, wish + others
            self.assertEqual(rings(*both), rings(now, wish) + [tuple(cell + shift for cell in ring)
                                                               for ring in rings(more, others)])
            unlocked = unlocking(now, wish) + [cell + shift for cell in unlocking(more, others)]
            self.assertEqual(unlocking(*both), unlocked)
            self.check_sums(both, (now, wish), (more, others))

    def check_sums(self, both, first, second):
        for function in (fewest_steps, lambda now, wish: with_free(now, wish, 1)):
            parts = [function(*first), function(*second)]
            self.assertEqual(function(*both), None if None in parts else sum(parts))
        parts = [told_of(count_orders, *first), told_of(count_orders, *second)]
        if all(isinstance(part, int) for part in parts):
            many = [len(wrong_cells(*first)), len(wrong_cells(*second))]
            self.assertEqual(count_orders(*both), math.comb(sum(many), many[0]) * parts[0] * parts[1])

    def test_the_console_tells_the_same(self):
        for now, wish in some_wishes(157, 40, (1, 2, 3, 5, 9, 60)):
            desk = Console()
            desk.execute("now " + format_now(now))
            desk.execute("wish " + format_wish(now, wish))
            number = fewest_moves(now, wish)
            self.assertEqual(desk.execute("fewest"), "none" if number is None else str(number))
            if number is not None:
                for word, a, b in some_moves(now, wish):
                    held = desk.execute(f"{word} {a} {b}")
                    self.assertEqual(desk.execute("rings") == "none", rings(parse_now(held), wish) == [])
                self.assertEqual(desk.execute("wrong"), "none")

    def test_equal_arguments_give_equal_results(self):
        for now, wish in some_wishes(163, 30, (2, 3, 5, 8)):
            for function in (some_moves, some_steps, some_ways, some_swaps, first_moves):
                self.assertEqual(told_of(function, now, wish), told_of(function, list(now), list(wish)))


def kind_of(found):
    """A number, or the error alone: its value depends on the values."""
    return found[0] if isinstance(found, tuple) else found


if __name__ == "__main__":
    unittest.main()
