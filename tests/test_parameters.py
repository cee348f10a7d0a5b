"""[2], [3]: the errors of parameters, and the conventions, for each function."""

import copy
import inspect
import unittest

from tests.samples import BASIC, CHANGED, COSTS, HUGE, SIGNATURES, TURNED
from valuesmoved.errors import InvalidNow, InvalidRow, InvalidSources, InvalidText, InvalidTicks, InvalidWish
from valuesmoved.errors import MoveError
from valuesmoved.kinds import does_kinds, is_kind_row
from valuesmoved.rows import after_row, does, lost, same_rows, sources_of, turned
from valuesmoved.ticks import after_ticks, does_ticks, is_ticks

INDEXED = (InvalidNow, InvalidWish, InvalidRow, InvalidTicks, InvalidSources, InvalidText)
YES_OR_NO = ("does", "does_ticks", "does_kinds", "same_rows", "are_ways", "shows_refusal", "shows_kind_bound",
             "same_turns")
NUMBERS = ("fewest_moves", "fewest_ticks", "fewest_steps", "fewest_swaps", "fewest_kind_moves", "fewest_by_trying",
           "count_orders", "order_index", "count_first", "fewest_for", "count_maps", "count_costing", "count_barred",
           "total_moves", "fewest_with", "with_free", "with_copy")
STRINGS = ("format_now", "format_wish", "format_row")
TUPLES = ("index_and_period", "dearest")


def right_arguments(parameters):
    return {name: copy.deepcopy(right) for name, right, _, _ in parameters}


def some_bad(bad):
    """A few of the wrong arguments, each of another kind."""
    found = bad()
    return found[:: max(1, len(found) // 6)]


def all_lists(value):
    """All lists within a value, itself included."""
    if isinstance(value, (list, tuple)):
        within = [found for item in value for found in all_lists(item)]
        return within + [value] if isinstance(value, list) else within
    return []


class ErrorsOfParametersTest(unittest.TestCase):
    def check_raises(self, function, arguments, kind, index):
        before = copy.copy(arguments)
        with self.assertRaises(MoveError) as caught:
            function(**arguments)
        self.assertEqual(type(caught.exception), kind)
        if kind in INDEXED:
            found = list(vars(caught.exception).items())
            self.assertEqual(found, [("place" if kind is InvalidText else "index", index)])
            self.assertIs(type(found[0][1]), type(index))
        self.assertEqual(arguments, before)

    def test_each_parameter(self):
        for function, parameters in SIGNATURES:
            for name, _, kind, bad in parameters:
                if kind is not None:
                    with self.subTest(function=function.__name__, name=name):
                        self.check_all(function, parameters, name, kind, bad())

    def check_all(self, function, parameters, name, kind, bad):
        for value, index in bad:
            arguments = right_arguments(parameters)
            arguments[name] = value
            self.check_raises(function, arguments, kind, index)

    def test_the_first_of_several(self):
        for function, parameters in SIGNATURES:
            for at, (name, _, kind, bad) in enumerate(parameters):
                if kind is not None:
                    with self.subTest(function=function.__name__, name=name):
                        self.check_first(function, parameters, at)

    def check_first(self, function, parameters, at):
        name, _, kind, bad = parameters[at]
        for later, _, _, later_bad in parameters[at + 1:]:
            for value, index in some_bad(bad):
                for wrong, _ in some_bad(later_bad) if later_bad else [("any", None)]:
                    arguments = right_arguments(parameters)
                    arguments[name] = value
                    arguments[later] = wrong
                    self.check_raises(function, arguments, kind, index)

    def test_the_second_row_counts_for_itself(self):
        right, wrong = ("move", 0, 1), ("move", 1, 1)
        with self.assertRaises(InvalidRow) as caught:
            same_rows(2, [right, right, wrong], [wrong], [5])
        self.assertEqual(caught.exception.index, 2)
        with self.assertRaises(InvalidRow) as caught:
            same_rows(2, [right, right], [right, wrong], [5])
        self.assertEqual(caught.exception.index, 1)

    def test_rows_count_the_cells(self):
        for function, first in [(after_row, [1, 2]), (lost, [1, 2]), (sources_of, 2), (turned, 2)]:
            with self.subTest(function=function.__name__), self.assertRaises(InvalidRow) as caught:
                function(first, [("move", 0, 1), ("swap", 0, 2)])
            self.assertEqual(caught.exception.index, 1)
        self.assertIs(does([1, 2], [1, None], [("move", 0, 1), ("swap", 0, 2)]), False)

    def test_ticks_count_the_cells(self):
        with self.assertRaises(InvalidTicks) as caught:
            after_ticks([1, 2], 3, [[(0, 1)], [(1, 0), (0, 1)], [(0, 2)]])
        self.assertEqual(caught.exception.index, 2)
        self.assertIs(does_ticks([1, 2], [1, None], 3, [[(0, 1)], [(0, 2)]]), False)
        self.assertIs(is_ticks(2, 3, [[(0, 1)], [(0, 2)]]), False)

    def test_limits_of_the_functions_that_tell_costs(self):
        now = [10 ** 30, -(10 ** 30), *range(58)]
        pairs = [now[cell ^ 1] for cell in range(60)]
        free = [*pairs[:58], None, None]
        ticks = [[(59, 0), (0, 59), (58, 1)]] * 200
        for function, parameters in COSTS:
            names = [name for name, _, _, _ in parameters]
            whole = function.__name__ in ("fewest_swaps", "some_swaps")
            for number, width in [(0, 1), (10 ** 40, 2), (HUGE, 3)]:
                arguments = {**right_arguments(parameters), "now": now, "wish": pairs if whole else free, "cells": 60,
                             "width": width, "number": number, "kinds": "rm" * 28 + "mmrr",
                             "ticks": [tick[:width] for tick in ticks]}
                with self.subTest(function=function.__name__, number=number, width=width):
                    function(**{name: arguments[name] for name in names})

    def test_one_cell(self):
        for function, parameters in COSTS:
            names = [name for name, _, _, _ in parameters]
            # Fewer than two registers are idle where there is one cell.
            if function.__name__ not in ("fewest_kind_moves", "some_kind_moves"):
                arguments = {**right_arguments(parameters), "now": [7], "wish": [7], "kinds": "m", "cells": 1,
                             "ticks": []}
                with self.subTest(function=function.__name__):
                    function(**{name: arguments[name] for name in names})

    def test_limits_of_the_functions_that_count(self):
        now = [10 ** 30, -(10 ** 30), *range(58)]
        # Fifty-nine cells that go round, and one beside that must be written first.
        wish = [*now[1:59], now[0], now[0]]
        order = [59, *range(59)]
        least = dict.fromkeys(("turns", "free", "index", "wrong", "ringed", "number"), 0)
        great = {"turns": 10 ** 30, "free": HUGE, "index": 10 ** 20, "wrong": HUGE, "ringed": HUGE, "number": 10 ** 30}
        for function, parameters in TURNED:
            few = function.__name__ in ("fewest_by_trying", "reachable", "nth_costing")
            for numbers in (least, great):
                arguments = {**right_arguments(parameters), "now": now, "wish": wish, "order": order, "cell": 59,
                             "sources": [*range(1, 60), 0], "cells": 60, "value": order, **numbers}
                if few or (function.__name__ == "nth_order" and numbers is great):
                    arguments = right_arguments(parameters)
                with self.subTest(function=function.__name__, numbers=numbers):
                    function(**{name: arguments[name] for name, _, _, _ in parameters})

    def test_one_cell_of_the_functions_that_count(self):
        for function, parameters in TURNED:
            arguments = {**right_arguments(parameters), "now": [7], "wish": [7], "kinds": "m", "cells": 1, "cell": 0,
                         "order": [], "sources": [0], "index": 0, "number": 0}
            with self.subTest(function=function.__name__):
                function(**{name: arguments[name] for name, _, _, _ in parameters})

    def test_limits_of_the_functions_that_change(self):
        now = [10 ** 30, -(10 ** 30), *range(58)]
        words = " ".join(map(str, now))
        texts = {"parse_now": words, "parse_wish": words.replace("57", "-"), "parse_row": "59>0 " * 199 + "0=59"}
        for function, parameters in CHANGED:
            for number, item in [(0, None), (10 ** 40, 10 ** 30), (HUGE, -(10 ** 30))]:
                arguments = {**right_arguments(parameters), "now": now, "wish": [*now[30:], *[None] * 30], "cells": 60,
                             "cell": 59, "item": item, "number": number, "value": item or 0,
                             "row": [("swap", 59, 0)] * 200, "text": texts.get(function.__name__)}
                with self.subTest(function=function.__name__, number=number):
                    function(**{name: arguments[name] for name, _, _, _ in parameters})

    def test_one_cell_of_the_functions_that_change(self):
        texts = {"parse_now": "7", "parse_wish": "-", "parse_row": ""}
        for function, parameters in CHANGED:
            arguments = {**right_arguments(parameters), "now": [7], "wish": [7], "cells": 1, "cell": 0, "item": None,
                         "row": [], "text": texts.get(function.__name__)}
            with self.subTest(function=function.__name__):
                function(**{name: arguments[name] for name, _, _, _ in parameters})

    def test_limits_that_still_hold(self):
        for function, parameters in BASIC:
            names = [name for name, _, _, _ in parameters]
            arguments = right_arguments(parameters)
            if "now" in names:
                arguments["now"] = [10 ** 30, -(10 ** 30)] * 30
            if "wish" in names:
                arguments["wish"] = [10 ** 30, None, -(10 ** 30)] * 20
            if "cells" in names:
                arguments["cells"] = 60
            if "row" in names:
                arguments["row"] = [("move", 59, 0)] * 200
            if "second" in names:
                arguments["second"] = [("swap", 59, 58)] * 200
            if "counted" in names:
                arguments["counted"] = list(range(60))
            with self.subTest(function=function.__name__):
                function(**arguments)
            if "cells" in names:
                arguments.update({"cells": 1, "row": [], "second": [], "counted": [0]})
                function(**{name: arguments[name] for name in names})
            if function.__name__ in ("holders", "wanters"):
                for value in (10 ** 30, -(10 ** 30), 0):
                    function(**{**arguments, "value": value})


class ConventionsTest(unittest.TestCase):
    def test_names_of_parameters(self):
        for function, parameters in SIGNATURES:
            with self.subTest(function=function.__name__):
                self.assertEqual(list(inspect.signature(function).parameters), [name for name, _, _, _ in parameters])

    def test_by_position_and_by_name(self):
        for function, parameters in SIGNATURES:
            with self.subTest(function=function.__name__):
                arguments = right_arguments(parameters)
                by_position = function(*arguments.values())
                self.assertEqual(by_position, function(**arguments))
                self.assertEqual(by_position, function(**dict(reversed(arguments.items()))))

    def test_arguments_stay(self):
        for function, parameters in SIGNATURES:
            with self.subTest(function=function.__name__):
                arguments = right_arguments(parameters)
                function(**arguments)
                self.assertEqual(arguments, right_arguments(parameters))

    def test_returned_lists_are_new(self):
        for function, parameters in SIGNATURES:
            with self.subTest(function=function.__name__):
                arguments = right_arguments(parameters)
                self.check_new(function, arguments, all_lists(list(arguments.values())))

    def check_new(self, function, arguments, given):
        result = function(**arguments)
        first = copy.deepcopy(result)
        for found in all_lists(result):
            self.assertFalse(any(found is one for one in given))
            found.append("more")
        self.assertEqual(function(**arguments), first)

    def test_the_empty_row_gives_a_new_list(self):
        now = [1, 2]
        self.assertIsNot(after_row(now, []), now)

    def test_kinds_of_results(self):
        for function, parameters in SIGNATURES:
            with self.subTest(function=function.__name__):
                result = function(**right_arguments(parameters))
                if function.__name__.startswith("is_") or function.__name__ in YES_OR_NO:
                    self.assertIs(type(result), bool)
                elif function.__name__ in NUMBERS:
                    self.assertIs(type(result), int)
                elif function.__name__ in STRINGS:
                    self.assertIs(type(result), str)
                elif function.__name__ == "best_drops":
                    self.assertEqual([type(result), *map(type, result)], [tuple, int, list])
                elif function.__name__ in TUPLES:
                    self.assertEqual([type(result), *map(type, result)], [tuple, int, int])
                elif function.__name__ not in ("missing", "turned", "refusal", "turns_back"):
                    self.assertIs(type(result), list)

    def test_right_values_are_accepted(self):
        for function, parameters in COSTS + TURNED:
            if parameters[-1][0] == "value":
                with self.subTest(function=function.__name__):
                    self.assertIs(function(**right_arguments(parameters)), True)

    def test_kinds_count_the_cells(self):
        self.assertIs(is_kind_row("rr", [("move", 0, 1)]), True)
        self.assertIs(is_kind_row("rr", [("move", 0, 2)]), False)
        self.assertIs(does_kinds([1, 2], [1, None], "rr", [("move", 0, 1)]), True)
        self.assertIs(does_kinds([1, 2], [1, None], "rr", [("move", 0, 2)]), False)

    def test_each_is_defined_in_its_file(self):
        files = {"cells": 9, "rows": 7, "rings": 4, "fewest": 5, "ticks": 5, "swaps": 6, "kinds": 8,
                 "small": 2, "orders": 7, "powers": 6, "counts": 6, "changes": 5, "texts": 6}
        for name, many in files.items():
            module = "valuesmoved." + name
            self.assertEqual(sum(function.__module__ == module for function, _ in SIGNATURES), many)


if __name__ == "__main__":
    unittest.main()
