"""Values of every kind for the tests, and the functions with arguments that are right and wrong."""

import functools

from valuesmoved.cells import free_cells, holders, is_done, is_now, is_wish, missing, needed, wanters, wrong_cells
from valuesmoved.changes import best_drops, fewest_with, unlocking, with_copy, with_free
from valuesmoved.counts import count_barred, count_costing, count_maps, dearest, nth_costing, total_moves
from valuesmoved.errors import InvalidCell, InvalidKinds, InvalidNow, InvalidNumber, InvalidOrder, InvalidRow
from valuesmoved.errors import InvalidSources, InvalidText, InvalidTicks, InvalidWish, MoveError
from valuesmoved.fewest import fewest_moves, first_moves, refusal, shows_refusal, some_moves
from valuesmoved.kinds import bound_rows, does_kinds, fewest_kind_moves, idle_registers, is_kind_row, loads
from valuesmoved.kinds import shows_kind_bound, some_kind_moves
from valuesmoved.orders import count_first, count_orders, is_order, nth_order, order_index, order_row, walk_orders
from valuesmoved.powers import fewest_for, index_and_period, kept_cells, power_of, same_turns, turns_back
from valuesmoved.rings import back_cells, is_ring, rings, spare_cells
from valuesmoved.rows import after_row, does, is_row, lost, same_rows, sources_of, turned
from valuesmoved.small import fewest_by_trying, reachable
from valuesmoved.swaps import are_ways, fewest_steps, fewest_swaps, some_steps, some_swaps, some_ways
from valuesmoved.texts import format_now, format_row, format_wish, parse_now, parse_row, parse_wish
from valuesmoved.ticks import after_ticks, does_ticks, fewest_ticks, is_ticks, some_ticks

TOP = 10 ** 30
HUGE = 10 ** 100 - 1
DEEP = [[[["a", 1], 2], (3,)], {"a": [None]}]

# What is neither a list nor an integer that a cell can hold.
OTHERS = [
    None, True, False, HUGE, -HUGE, "", "0", "move", "x" * 4000, (), (0,), (0, 1), (1, 2, 3),
    ("move", 0, 1), (("move", 0, 1),), {}, {"a": 1}, {"now": [1, 2]}, MoveError("a"), InvalidNow(3),
]
LISTS = [
    [], [None], [True], [False], ["1"], [[]], [[1, 2]], [()], [(1,)], [{}], [{"a": 1}], [HUGE], [MoveError("a")],
    DEEP, [0] * 4000, [None] * 4000,
]
ANYTHING = OTHERS + LISTS + [-1, 0, 1, 60, 61]

# What no cell can hold.
NO_VALUES = [TOP + 1, -TOP - 1, HUGE, -HUGE, True, False, "1", "", (), (1,), [], [1], [[1]], {}, {"a": 1},
             MoveError("a")]
NO_STEPS = [
    None, True, 0, "", "move", "0>1", {}, {"move": 1}, MoveError("a"), [], [[]],
    ["move", 0, 1], [("move", 0, 1)], (("move", 0, 1),), ("move", (0, 1)), ("move", [0, 1]),
    (), ("move",), ("swap", 0), ("move", 0), ("move", 0, 1, 1), ("swap", 0, 1, None), (0, 1), (0, 1, "move"),
    ("moves", 0, 1), ("Move", 0, 1), ("mov", 0, 1), ("", 0, 1), (None, 0, 1), (0, 0, 1), (True, 0, 1),
    (["move"], 0, 1), (("move",), 0, 1), ({}, 0, 1), (MoveError("move"), 0, 1),
    ("move", 0, 0), ("swap", 1, 1), ("move", 0, 3), ("move", 3, 0), ("swap", 2, 3), ("swap", 60, 1),
    ("move", -1, 0), ("move", 0, -1), ("swap", 0, -3), ("swap", HUGE, 0), ("move", 0, -HUGE),
    ("move", True, 0), ("move", False, 1), ("move", 0, True), ("swap", 1, False), ("swap", True, 2),
    ("move", None, 1), ("move", 0, None), ("move", "0", 1), ("swap", 0, "1"), ("swap", (0,), 1), ("move", 0, [1]),
    ("swap", {}, 1), ("move", 0, MoveError("a")),
]
# What is no tick of the width 2 for three cells.
NO_TICKS = [
    None, True, 0, "", "move", {}, {(0, 1): 1}, MoveError("a"), [], (), ((0, 1),), (0, 1), [0, 1], [[0, 1]],
    [()], [(0,)], [(0, 1, 2)], [("move", 0, 1)], [None], [0], [{}], [MoveError("a")], ["01"], [((0, 1),)],
    [(0, 0)], [(2, 2), (0, 1)], [(0, 3)], [(3, 0)], [(0, 1), (3, 2)], [(-1, 0)], [(0, -1)], [(HUGE, 0)], [(0, -HUGE)],
    [(0, True)], [(True, 0)], [(False, 1)], [(1, False)], [(0, 1), (1, None)], [(None, 1)], [("0", 1)], [([0], 1)],
    [(0, 1), (2, 1)], [(0, 1), (0, 1)], [(0, 1), (1, 2), (2, 0)], [(0, 1), None], [None, (0, 1)], [(0, 1), [1, 0]],
    [(0, 1)] * 4000,
]


def bad_now():
    """Arguments that are no content, each with the index that the error tells."""
    found = [(value, None) for value in OTHERS + [-1, 0, 1, [], [1] * 61, [0] * 4000, [None] * 61]]
    for item in NO_VALUES + [None]:
        found += [([item], 0), ([1, 2, item], 2), ([1, item, 3, item, None], 1), ([7] * 59 + [item], 59)]
    return found


def bad_wish(cells=3):
    """Arguments that are no wish for so many cells."""
    short, more = [1, 2, 3, 4, 5][: cells - 1], [1, 2, 3, 4, 5, 6][: cells + 1]
    found = [(value, None) for value in OTHERS + LISTS + [-1, 0, 3, short, more, [None] * (cells + 1), ["1"] * 2]]
    for item in NO_VALUES:
        found += [([item, 1, *short[1:]], 0), ([None, item, item, *short[2:]], 1), ([*short, item], cells - 1)]
    return found


def bad_row():
    """Arguments that are no row for three cells."""
    right = ("move", 0, 1)
    found = [(value, None) for value in OTHERS + [-1, 0, 3, [right] * 201, [None] * 201]]
    for item in NO_STEPS:
        found += [([item], 0), ([right, item, item], 1), ([right] * 199 + [item], 199)]
    return found


def bad_ticks():
    """Arguments that are no ticks of the width 2 for three cells."""
    right = [(0, 1), (1, 0)]
    found = [(value, None) for value in OTHERS + [-1, 0, 3, [right] * 201, [None] * 201, (right,)]]
    for item in NO_TICKS:
        found += [([item], 0), ([right, item, item], 1), ([right] * 199 + [item], 199)]
    return found


def bad_width():
    """Arguments that are no width."""
    return [(value, None) for value in OTHERS + LISTS + [0, -1, 4, 5, 60, [2], "2", (2,)]]


def bad_number():
    """Arguments that are no integer from 0 on."""
    return [(value, None) for value in OTHERS + LISTS + [-1, -2, [2], "2", (2,)] if value != HUGE]


def bad_kinds(fewest, most):
    """Arguments that are no string of so many letters r and m."""
    wrong = ["r" * (fewest - 1), "m" * (most + 1), "r" * 4000, "R" * most, "M" * fewest, "r" * (most - 1) + "x",
             "x" + "m" * (most - 1), "m" * (most - 1) + " ", " " * most, "0" * most, "r" * (most - 1) + "R", ["r", "m"],
             ["r"] * most, ("r", "m"), ("r",) * most, [None] * most, {"r": 1}, {"rm": "rm"}, [["rm"]], most, -1, 0, 1]
    return [(value, None) for value in wrong + OTHERS + LISTS]


def bad_cells():
    """Arguments that are no number of cells."""
    return [(value, None) for value in OTHERS + LISTS + [0, -1, 61, 62, 1000, [3], "3", (3,)]]


def bad_value():
    """Arguments that no cell can hold."""
    return [(value, None) for value in NO_VALUES + [None]]


def bad_counted():
    """Arguments that are no ascending list of the cells 0 to 2."""
    wrong = [[3], [0, 3], [-1], [-1, 0], [0, 0], [1, 0], [0, 2, 1], [0, 1, 1], [2, 2], [0, 1, 2, 3], [0, 1, 2, 2],
             [0, True], [0, None], [None, 0], ["0"], [(0,)], [[0]], [HUGE], (0, 1, 2), (0, 1), "012", {"0": 1}]
    return [(value, None) for value in wrong + OTHERS + [item for item in LISTS if item] + [0, 1, 2, -1]]


def bad_cell(cells):
    """Arguments that are none of so many cells."""
    return [(value, None) for value in OTHERS + LISTS + [cells, -1, -2, cells + 1, 60, 61, [1], "1", (1,), [[1]]]]


def bad_sources():
    """Arguments that are no source list."""
    found = [(value, None) for value in OTHERS + [-1, 0, 1, [], [0] * 61, [0] * 4000, [None] * 61, (0, 1)]]
    for item in [None, -1, 61, -60, True, False, "0", "", HUGE, -HUGE, (), (0,), [], [0], {}, {"0": 0}, MoveError("a")]:
        found += [([item], 0), ([1, 2, item], 2), ([1, item, 2, item, None], 1), ([7] * 59 + [item], 59)]
    return found + [([1], 0), ([0, 2], 1), ([0, 1, 3], 2), ([0, 1, 2, 5, 6], 3), ([60] * 60, 0), ([59] * 59 + [60], 59)]


def bad_turns():
    """Arguments that are no integer from 0 to 10 ** 30."""
    return [(value, None) for value in OTHERS + LISTS + [-1, -2, TOP + 1, 10 * TOP, -TOP, [2], "2", (2,)]]


def bad_order():
    """Arguments that are no order for [7, 1, 2, 3] and [1, 7, 7, 7]."""
    wrong = [[], [2], [2, 0], [2, 0, 1], [0, 2, 1, 3], [1, 0, 2, 3], [2, 1, 0, 3], [2, 3, 1, 0], [0, 1, 2, 3],
             [3, 2, 1, 0], [2, 0, 1, 1], [2, 2, 0, 1], [2, 0, 1, 3, 3], [2, 0, 1, 4], [2, 0, 1, -1],
             [2, 0, True, 3], [2, False, 1, 3], [2, 0, 1, "3"], [2, 0, 1, None], [2, 0, 1, (3,)], [[2, 0, 1, 3]],
             (2, 0, 1, 3), "2013", {"2": 0}, 2013, [2, 0, 1, HUGE], [7, 1, 2, 3], [("move", 0, 2), ("move", 1, 0)],
             [2, [0], 1, 3], [{}, 2, 0, 1]]
    return [(value, None) for value in wrong + OTHERS + LISTS + [-1, 0, 1]]


def bad_item():
    """Arguments that are no item of a wish."""
    return [(value, None) for value in NO_VALUES]


# Words that are no number, and no item of a wish either.
NO_NUMBERS = [
    "", "-0", "00", "01", "-01", "0001", "+1", "+", "--1", "--", "-+1", "1-", "1-2", "1.0", "1.", ".5", "1e3", "0x1",
    "1_0", "_1", "1,2", "1,", "(1)", "[1]", "none", "None", "True", "x", "1x", "x1", "-x", "~", "'1'", "1>2", "0=1",
    str(TOP + 1), str(-TOP - 1), str(TOP * 10), "9" * 31, "1" * 32, "9" * 100, "1" * 3000, "-" + "7" * 3000, "0" * 40,
]
# Words that are no step for three cells.
NO_STEP_WORDS = [
    "", "0", "1", "-", ">", "=", "0>", ">1", "=1", "0=", "0>0", "2=2", "0>3", "3>0", "0=3", "3=1", "-1>0", "0>-1",
    "-0>1", "0>-0", "00>1", "0>01", "01=2", "0<1", "0-1", "0,1", "0>1>2", "0=1=2", "0=1>2", "0>1=2", "0>>1", "0==1",
    "0>=1", "0=>1", "0>1;", "(0>1)", "+0>1", "0>+1", "0>x", "x>0", "a=b", "move", "swap", "move(0,1)", "0>1.0",
    "0>None", "0>" + "1" * 3000, str(TOP) + ">1", "0=" + str(TOP), "0_>1",
]


def no_strings():
    return [(value, None) for value in OTHERS + LISTS + [-1, 0, 1, 60, 61] if not isinstance(value, str)]


def bad_now_text():
    """Arguments that are no text of a content."""
    found = no_strings()
    for word in [*NO_NUMBERS, "-"]:
        found += [(word, 0), (word + " 1", 0), ("1 2 " + word, 2), ("1 " + word + " 2 " + word, 1)]
        found += [("7 " * 59 + word, 59)]
    found += [(" ", 0), ("  ", 0), (" 1", 0), ("1 ", 1), ("1  2", 1), ("1 2 ", 2), ("1 2  ", 2)]
    return found + [("7 " * 60 + "7", 60), ("7 " * 60 + "x", 60), ("7 " * 60, 60), ("7 " * 1999, 60),
                    ("7 " * 40 + "x" + " 7" * 40, 40)]


def bad_wish_text():
    """Arguments that are no text of a wish for three cells."""
    found = no_strings()
    for word in NO_NUMBERS:
        found += [(word, 0), (word + " -", 0), ("1 - " + word, 2), ("- " + word + " - " + word, 1)]
    found += [("1", 1), ("-", 1), ("1 2", 2), ("- -", 2), ("1 2 3 4", 3), ("- - - -", 3), ("- - - x", 3), ("- - - ", 3)]
    return found + [("- ", 1), (" -", 0), ("-  -", 1), ("- " * 1999, 3), ("- x - - -", 1)]


def bad_row_text():
    """Arguments that are no text of a row for three cells."""
    found = no_strings()
    for word in NO_STEP_WORDS:
        found += [(word + " 0>1", 0), ("0>1 1=2 " + word, 2), ("0>1 " + word + " " + word, 1)]
        found += [("2=1 " * 199 + word, 199)] + ([(word, 0)] if word else [])
    found += [(" ", 0), ("  ", 0), (" 0>1", 0), ("0>1 ", 1), ("0>1  1>0", 1), ("0 > 1", 0), ("0>1 1 = 2", 1)]
    return found + [("0>1 " * 200 + "0>1", 200), ("0>1 " * 200, 200), ("0>1 " * 999, 200),
                    ("0>1 " * 7 + "x" + " 0>1" * 300, 7)]


def walked(function):
    """All that a function yields, under its name."""
    @functools.wraps(function)
    def walk(*arguments, **named):
        return list(function(*arguments, **named))
    return walk


NOW = ("now", [1, 2, 3], InvalidNow, bad_now)
WISH = ("wish", [2, 1, None], InvalidWish, bad_wish)
CELLS = ("cells", 3, InvalidNumber, bad_cells)
VALUE = ("value", 2, InvalidNumber, bad_value)
ROW = ("row", [("move", 0, 2), ("swap", 1, 2)], InvalidRow, bad_row)
SECOND = ("second", [("swap", 0, 1)], InvalidRow, bad_row)
COUNTED = ("counted", [0, 2], InvalidCell, bad_counted)
WIDTH = ("width", 2, InvalidNumber, bad_width)
NUMBER = ("number", 2, InvalidNumber, bad_number)
TICKS = ("ticks", [[(0, 1), (1, 0)], [(2, 0)]], InvalidTicks, bad_ticks)
FULL_WISH = ("wish", [2, 3, 1], InvalidWish, bad_wish)
# Five cells, of which two are idle registers.
KIND_NOW = ("now", [1, 2, 3, 8, 9], InvalidNow, bad_now)
KIND_WISH = ("wish", [2, 1, 2, None, None], InvalidWish, lambda: bad_wish(5))
KINDS = ("kinds", "rmmrr", InvalidKinds, lambda: bad_kinds(5, 5))
SMALL_KINDS = ("kinds", "rmr", InvalidKinds, lambda: bad_kinds(3, 3))
ANY_KINDS = ("kinds", "rmr", InvalidKinds, lambda: bad_kinds(1, 60))
# Six orders, which begin with cell 2 or 3.
ORDER_NOW = ("now", [7, 1, 2, 3], InvalidNow, bad_now)
ORDER_WISH = ("wish", [1, 7, 7, 7], InvalidWish, lambda: bad_wish(4))
ORDER = ("order", [2, 0, 1, 3], InvalidOrder, bad_order)
INDEX = ("index", 3, InvalidNumber, lambda: [*bad_number(), (-HUGE, None)])
CELL = ("cell", 2, InvalidCell, lambda: bad_cell(4))
SOURCES = ("sources", [1, 2, 3, 0, 0], InvalidSources, bad_sources)
TURNS = ("turns", 10, InvalidNumber, bad_turns)
MORE_TURNS = ("number", 14, InvalidNumber, bad_turns)
FREE = ("free", 1, InvalidNumber, bad_number)
WRONG = ("wrong", 2, InvalidNumber, bad_number)
RINGED = ("ringed", 1, InvalidNumber, bad_number)
COST = ("number", 3, InvalidNumber, bad_number)
THIRD = ("cell", 2, InvalidCell, lambda: bad_cell(3))
ITEM = ("item", 1, InvalidNumber, bad_item)
NOW_TEXT = ("text", "5 -6 5", InvalidText, bad_now_text)
WISH_TEXT = ("text", "2 - -7", InvalidText, bad_wish_text)
ROW_TEXT = ("text", "0>2 1=2", InvalidText, bad_row_text)


def any_value(right):
    """A parameter that accepts any value, with one for which the answer is True."""
    return "value", right, None, None


ANY = any_value([("move", 0, 2), ("move", 1, 0), ("move", 2, 1)])
ANY_KIND_ROW = any_value([("move", 1, 3), ("move", 3, 2), ("move", 0, 1), ("move", 3, 0)])

# Each function with its parameters: name, a right argument, the error, and arguments that raise it.
BASIC = [
    (is_now, [any_value([1, 2, 3])]),
    (is_wish, [NOW, any_value([2, 1, None])]),
    (wrong_cells, [NOW, WISH]),
    (free_cells, [NOW, WISH]),
    (needed, [NOW, WISH]),
    (holders, [NOW, VALUE]),
    (wanters, [NOW, WISH, VALUE]),
    (missing, [NOW, WISH]),
    (is_done, [NOW, WISH]),
    (is_row, [CELLS, ANY]),
    (after_row, [NOW, ROW]),
    (sources_of, [CELLS, ROW]),
    (same_rows, [CELLS, ROW, SECOND, COUNTED]),
    (does, [NOW, WISH, ANY]),
    (lost, [NOW, ROW]),
    (turned, [CELLS, ROW]),
    (rings, [NOW, WISH]),
    (is_ring, [NOW, WISH, any_value((0, 1))]),
    (spare_cells, [NOW, WISH]),
    (back_cells, [NOW, WISH]),
]
COSTS = [
    (fewest_moves, [NOW, WISH]),
    (some_moves, [NOW, WISH]),
    (first_moves, [NOW, WISH]),
    (refusal, [NOW, WISH, NUMBER]),
    (shows_refusal, [NOW, WISH, NUMBER, any_value(("count", [0, 1], [(0, 1)], 0))]),
    (is_ticks, [CELLS, WIDTH, any_value([[(0, 1), (1, 0)]])]),
    (after_ticks, [NOW, WIDTH, TICKS]),
    (fewest_ticks, [NOW, WISH, WIDTH]),
    (some_ticks, [NOW, WISH, WIDTH]),
    (does_ticks, [NOW, WISH, WIDTH, any_value([[(0, 1), (1, 0)]])]),
    (fewest_steps, [NOW, WISH]),
    (some_steps, [NOW, WISH]),
    (some_ways, [NOW, WISH]),
    (are_ways, [NOW, WISH, any_value([(0, 1)])]),
    (fewest_swaps, [NOW, FULL_WISH]),
    (some_swaps, [NOW, FULL_WISH]),
    (is_kind_row, [ANY_KINDS, any_value([("move", 0, 1), ("move", 1, 2)])]),
    (idle_registers, [KIND_NOW, KIND_WISH, KINDS]),
    (loads, [KIND_NOW, KIND_WISH, KINDS]),
    (bound_rows, [KIND_NOW, KIND_WISH, KINDS]),
    (fewest_kind_moves, [KIND_NOW, KIND_WISH, KINDS]),
    (some_kind_moves, [KIND_NOW, KIND_WISH, KINDS]),
    (does_kinds, [KIND_NOW, KIND_WISH, KINDS, ANY_KIND_ROW]),
    (shows_kind_bound, [KIND_NOW, KIND_WISH, KINDS, NUMBER, any_value(([0, 1, 2], [], [(0, 1)]))]),
]
TURNED = [
    (fewest_by_trying, [NOW, WISH, SMALL_KINDS]),
    (reachable, [NOW, SMALL_KINDS]),
    (is_order, [ORDER_NOW, ORDER_WISH, any_value([2, 0, 1, 3])]),
    (count_orders, [ORDER_NOW, ORDER_WISH]),
    (nth_order, [ORDER_NOW, ORDER_WISH, INDEX]),
    (order_index, [ORDER_NOW, ORDER_WISH, ORDER]),
    (walked(walk_orders), [ORDER_NOW, ORDER_WISH]),
    (count_first, [ORDER_NOW, ORDER_WISH, CELL]),
    (order_row, [ORDER_NOW, ORDER_WISH, ORDER]),
    (power_of, [SOURCES, TURNS]),
    (index_and_period, [SOURCES]),
    (same_turns, [SOURCES, TURNS, MORE_TURNS]),
    (kept_cells, [SOURCES, TURNS]),
    (turns_back, [SOURCES]),
    (fewest_for, [SOURCES, FREE, TURNS]),
    (count_maps, [CELLS, WRONG, RINGED]),
    (count_costing, [CELLS, FREE, COST]),
    (count_barred, [CELLS]),
    (dearest, [CELLS]),
    (total_moves, [CELLS]),
    (nth_costing, [CELLS, FREE, COST, INDEX]),
]
CHANGED = [
    (fewest_with, [NOW, WISH, THIRD, ITEM]),
    (with_free, [NOW, WISH, NUMBER]),
    (with_copy, [NOW, WISH, VALUE]),
    (best_drops, [NOW, WISH]),
    (unlocking, [NOW, WISH]),
    (format_now, [NOW]),
    (format_wish, [NOW, WISH]),
    (format_row, [CELLS, ROW]),
    (parse_now, [NOW_TEXT]),
    (parse_wish, [NOW, WISH_TEXT]),
    (parse_row, [CELLS, ROW_TEXT]),
]
SIGNATURES = BASIC + COSTS + TURNED + CHANGED
