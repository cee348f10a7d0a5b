"""Values of every kind for the tests, and the functions with arguments that are right and wrong."""

from valuesmoved.cells import free_cells, holders, is_done, is_now, is_wish, missing, needed, wanters, wrong_cells
from valuesmoved.errors import InvalidCell, InvalidNow, InvalidNumber, InvalidRow, InvalidWish, MoveError
from valuesmoved.rings import back_cells, is_ring, rings, spare_cells
from valuesmoved.rows import after_row, does, is_row, lost, same_rows, sources_of, turned

TOP = 10 ** 30
HUGE = 10 ** 100 - 1
DEEP = [[[["a", 1], 2], (3,)], {"a": [None]}]

# What is neither a list nor an integer that a cell can hold.
OTHERS = [
    None, True, False, HUGE, -HUGE, "", "0", "move", "x" * 4000, (), (0,), (0, 1), (1, 2, 3),
    ("move", 0, 1), (("move", 0, 1),), {}, {"a": 1}, {"now": [1, 2]}, MoveError("a"), InvalidNow(3),
]
LISTS = [
    [], [None], [True], [False], ["1"], [[]], [[1, 2]], [()], [(1,)], [{}], [{"a": 1}], [HUGE], [MoveError("a")],
    DEEP, [0] * 4000, [None] * 4000,
]
ANYTHING = OTHERS + LISTS + [-1, 0, 1, 60, 61]

# What no cell can hold.
NO_VALUES = [TOP + 1, -TOP - 1, HUGE, -HUGE, True, False, "1", "", (), (1,), [], [1], [[1]], {}, {"a": 1},
             MoveError("a")]
NO_STEPS = [
    None, True, 0, "", "move", "0>1", {}, {"move": 1}, MoveError("a"), [], [[]],
    ["move", 0, 1], [("move", 0, 1)], (("move", 0, 1),), ("move", (0, 1)), ("move", [0, 1]),
    (), ("move",), ("swap", 0), ("move", 0), ("move", 0, 1, 1), ("swap", 0, 1, None), (0, 1), (0, 1, "move"),
    ("moves", 0, 1), ("Move", 0, 1), ("mov", 0, 1), ("", 0, 1), (None, 0, 1), (0, 0, 1), (True, 0, 1),
    (["move"], 0, 1), (("move",), 0, 1), ({}, 0, 1), (MoveError("move"), 0, 1),
    ("move", 0, 0), ("swap", 1, 1), ("move", 0, 3), ("move", 3, 0), ("swap", 2, 3), ("swap", 60, 1),
    ("move", -1, 0), ("move", 0, -1), ("swap", 0, -3), ("swap", HUGE, 0), ("move", 0, -HUGE),
    ("move", True, 0), ("move", False, 1), ("move", 0, True), ("swap", 1, False), ("swap", True, 2),
    ("move", None, 1), ("move", 0, None), ("move", "0", 1), ("swap", 0, "1"), ("swap", (0,), 1), ("move", 0, [1]),
    ("swap", {}, 1), ("move", 0, MoveError("a")),
]


def bad_now():
    """Arguments that are no content, each with the index that the error tells."""
    found = [(value, None) for value in OTHERS + [-1, 0, 1, [], [1] * 61, [0] * 4000, [None] * 61]]
    for item in NO_VALUES + [None]:
        found += [([item], 0), ([1, 2, item], 2), ([1, item, 3, item, None], 1), ([7] * 59 + [item], 59)]
    return found


def bad_wish():
    """Arguments that are no wish for three cells."""
    found = [(value, None) for value in OTHERS + LISTS + [-1, 0, 3, [1, 2], [1, 2, 3, 4], [None] * 4, ["1"] * 2]]
    for item in NO_VALUES:
        found += [([item, 1, None], 0), ([None, item, item], 1), ([1, 2, item], 2)]
    return found


def bad_row():
    """Arguments that are no row for three cells."""
    right = ("move", 0, 1)
    found = [(value, None) for value in OTHERS + [-1, 0, 3, [right] * 201, [None] * 201]]
    for item in NO_STEPS:
        found += [([item], 0), ([right, item, item], 1), ([right] * 199 + [item], 199)]
    return found


def bad_cells():
    """Arguments that are no number of cells."""
    return [(value, None) for value in OTHERS + LISTS + [0, -1, 61, 62, 1000, [3], "3", (3,)]]


def bad_value():
    """Arguments that no cell can hold."""
    return [(value, None) for value in NO_VALUES + [None]]


def bad_counted():
    """Arguments that are no ascending list of the cells 0 to 2."""
    wrong = [[3], [0, 3], [-1], [-1, 0], [0, 0], [1, 0], [0, 2, 1], [0, 1, 1], [2, 2], [0, 1, 2, 3], [0, 1, 2, 2],
             [0, True], [0, None], [None, 0], ["0"], [(0,)], [[0]], [HUGE], (0, 1, 2), (0, 1), "012", {"0": 1}]
    return [(value, None) for value in wrong + OTHERS + [item for item in LISTS if item] + [0, 1, 2, -1]]


NOW = ("now", [1, 2, 3], InvalidNow, bad_now)
WISH = ("wish", [2, 1, None], InvalidWish, bad_wish)
CELLS = ("cells", 3, InvalidNumber, bad_cells)
VALUE = ("value", 2, InvalidNumber, bad_value)
ROW = ("row", [("move", 0, 2), ("swap", 1, 2)], InvalidRow, bad_row)
SECOND = ("second", [("swap", 0, 1)], InvalidRow, bad_row)
COUNTED = ("counted", [0, 2], InvalidCell, bad_counted)
ANY = ("value", [("move", 0, 2), ("move", 1, 0), ("move", 2, 1)], None, None)
ANY_RING = ("value", (0, 1), None, None)
ANY_WISH = ("value", [2, 1, None], None, None)
ANY_NOW = ("value", [1, 2, 3], None, None)

# Each function with its parameters: name, a right argument, the error, and arguments that raise it.
SIGNATURES = [
    (is_now, [ANY_NOW]),
    (is_wish, [NOW, ANY_WISH]),
    (wrong_cells, [NOW, WISH]),
    (free_cells, [NOW, WISH]),
    (needed, [NOW, WISH]),
    (holders, [NOW, VALUE]),
    (wanters, [NOW, WISH, VALUE]),
    (missing, [NOW, WISH]),
    (is_done, [NOW, WISH]),
    (is_row, [CELLS, ANY]),
    (after_row, [NOW, ROW]),
    (sources_of, [CELLS, ROW]),
    (same_rows, [CELLS, ROW, SECOND, COUNTED]),
    (does, [NOW, WISH, ANY]),
    (lost, [NOW, ROW]),
    (turned, [CELLS, ROW]),
    (rings, [NOW, WISH]),
    (is_ring, [NOW, WISH, ANY_RING]),
    (spare_cells, [NOW, WISH]),
    (back_cells, [NOW, WISH]),
]
