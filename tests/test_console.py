"""[28], [30], [31]: the console."""

import itertools
import random
import unittest

from tests.samples import ANYTHING, NO_NUMBERS, TOP
from valuesmoved.cells import wrong_cells
from valuesmoved.console import Console
from valuesmoved.errors import HeldTwice, InvalidCell, InvalidCommand, InvalidNumber, Missing, MoveError, NothingToUndo
from valuesmoved.errors import TooLarge
from valuesmoved.fewest import fewest_moves
from valuesmoved.live import Cells
from valuesmoved.orders import count_orders, nth_order
from valuesmoved.rings import rings
from valuesmoved.swaps import fewest_steps
from valuesmoved.ticks import fewest_ticks

# Sixty values of thirty figures each.
LONG = [(-1) ** cell * (10 ** 29 + 10 ** 27 * cell + 7) for cell in range(60)]
PLAIN = ["fewest", "steps", "wrong", "lost", "rings", "orders", "undo"]
# What asks, and changes nothing.
QUESTIONS = ["fewest", "steps", "ticks 1", "ticks 2", "ticks 3", "wrong", "lost", "rings", "orders", "order 0"]


def words_of(items):
    return " ".join("-" if item is None else str(item) for item in items)


def listed(items):
    return words_of(items) or "none"


def told(number):
    return "none" if number is None else str(number)


def answered(desk, command):
    """The answer, or the error with its fields."""
    try:
        return desk.execute(command)
    except MoveError as error:
        return type(error), vars(error)


def expected_of(function, write, *arguments):
    """What the function tells, or the error with its fields."""
    try:
        return write(function(*arguments))
    except MoveError as error:
        return type(error), vars(error)


class Model:
    """What a console should tell, by the functions."""

    def __init__(self, now):
        self.cells = Cells(now)
        self.wish = list(now)

    def answers(self):
        now, wish = self.cells.contents, self.wish
        found = [expected_of(fewest_moves, told, now, wish), expected_of(fewest_steps, told, now, wish)]
        found += [expected_of(fewest_ticks, told, now, wish, width) for width in (1, 2, 3)]
        found += [listed(wrong_cells(now, wish)), listed(self.cells.lost)]
        found += [listed(["-".join(map(str, ring)) for ring in rings(now, wish)])]
        return found + [expected_of(count_orders, told, now, wish), expected_of(nth_order, listed, now, wish, 0)]


class ConsoleTest(unittest.TestCase):
    def raised(self, desk, command):
        found = answered(desk, command)
        self.assertIsInstance(found, tuple, command)
        return found

    def run_all(self, desk, *commands):
        return [desk.execute(command) for command in commands]

    def test_example(self):
        commands = ["now 1 2 9", "wish 2 1 -", "fewest", "steps", "ticks 2", "rings", "orders", "move 0 2", "rings",
                    "fewest", "order 0", "lost", "undo", "wrong"]
        self.assertEqual(self.run_all(Console(), *commands),
                         ["ok", "ok", "3", "1", "1", "0-1", "0", "1 2 1", "none", "2", "0 1", "9", "ok", "0 1"])

    def test_as_the_functions_say(self):
        chance = random.Random(53)
        for _ in range(60):
            cells = chance.choice([1, 2, 3, 4, 6, 9])
            now = chance.choices([*range(cells), TOP, -TOP], k=cells)
            desk, model = Console(), Model(now)
            self.assertEqual(desk.execute("now " + words_of(now)), "ok")
            for _ in range(12):
                self.check_some(desk, model, chance, cells)

    def check_some(self, desk, model, chance, cells):
        word = chance.choice(["wish", "move", "swap", "undo", "move"])
        if word == "wish":
            model.wish = chance.choices([*model.cells.contents, None], k=cells)
            self.assertEqual(desk.execute("wish " + words_of(model.wish)), "ok")
        elif word == "undo":
            expected = expected_of(model.cells.undo, lambda _: "ok")
            self.assertEqual(answered(desk, "undo"), expected)
        else:
            pair = chance.choices(range(cells + 1), k=2)
            expected = expected_of(getattr(model.cells, word), listed, *pair)
            self.assertEqual(answered(desk, f"{word} {pair[0]} {pair[1]}"), expected)
        self.assertEqual([answered(desk, question) for question in QUESTIONS], model.answers())

    def test_sixty_cells(self):
        desk, model = Console(), Model(LONG)
        model.wish = [LONG[cell ^ 1] for cell in range(60)]
        self.assertEqual(self.run_all(desk, "now " + words_of(LONG), "wish " + words_of(model.wish)), ["ok", "ok"])
        self.assertEqual([answered(desk, question) for question in QUESTIONS], model.answers())
        self.assertEqual(desk.execute("rings"), " ".join(f"{cell}-{cell + 1}" for cell in range(0, 60, 2)))
        self.assertEqual(desk.execute("swap 59 0"), words_of([LONG[59], *LONG[1:59], LONG[0]]))
        self.assertEqual(self.raised(desk, "now " + words_of(LONG) + " 7")[0], InvalidCommand)
        self.assertEqual(self.raised(desk, "wish " + words_of(LONG) + " 7")[0], InvalidCommand)
        self.assertEqual(self.raised(desk, "wish " + words_of(LONG[:59]))[0], InvalidCommand)
        self.assertEqual(self.raised(desk, "move 60 0")[0], InvalidCell)

    def test_new_cells_want_what_they_hold(self):
        desk = Console()
        self.assertEqual(self.run_all(desk, "now 5 -6 5", "wrong", "fewest", "steps", "ticks 1", "rings", "lost",
                                      "orders", "order 0"),
                         ["ok", "none", "0", "0", "0", "none", "none", "1", "none"])
        self.assertEqual(self.run_all(desk, "move 0 1", "wrong", "fewest", "lost"), ["5 5 5", "1", "none", "-6"])
        # The wish of the cells before, and what they lost, is gone.
        self.assertEqual(self.run_all(desk, "now 7 8", "wrong", "lost", "fewest"), ["ok", "none", "none", "0"])
        self.assertEqual(self.raised(desk, "undo")[0], NothingToUndo)

    def test_a_wish_stays(self):
        desk = Console()
        self.assertEqual(self.run_all(desk, "now 1 2", "wish 2 -", "wrong", "move 1 0", "wrong", "undo", "wrong",
                                      "wish - -", "wrong", "move 0 1", "undo"),
                         ["ok", "ok", "0", "2 2", "none", "ok", "0", "ok", "none", "1 1", "ok"])

    def test_limits_of_numbers(self):
        desk = Console()
        self.assertEqual(self.run_all(desk, f"now {TOP} {-TOP} 0", f"wish {-TOP} {TOP} -", "fewest", "move 0 2"),
                         ["ok", "ok", "3", f"{TOP} {-TOP} {TOP}"])
        for number in (TOP + 1, -TOP - 1):
            self.assertEqual(self.raised(desk, f"now {number}")[0], InvalidCommand)
            self.assertEqual(self.raised(desk, f"wish - {number} -")[0], InvalidCommand)
        self.assertEqual(desk.execute("wrong"), "0 1")
        self.assertEqual(self.raised(desk, f"order {TOP}")[0], InvalidNumber)
        self.assertEqual(self.raised(desk, f"order {TOP + 1}")[0], InvalidCommand)
        self.assertEqual(self.raised(desk, f"ticks {TOP}")[0], InvalidNumber)
        self.assertEqual(self.raised(desk, f"ticks {TOP + 1}")[0], InvalidCommand)
        self.assertEqual(self.raised(desk, f"move {TOP} 0")[0], InvalidCell)
        self.assertEqual(self.raised(desk, f"move 0 {TOP + 1}")[0], InvalidCommand)

    def test_orders(self):
        desk = Console()
        self.run_all(desk, "now 7 1 2 3", "wish 1 7 7 7")
        self.assertEqual(desk.execute("orders"), "6")
        self.assertEqual([desk.execute(f"order {index}") for index in range(6)],
                         ["2 0 1 3", "2 0 3 1", "2 3 0 1", "3 0 1 2", "3 0 2 1", "3 2 0 1"])
        self.assertEqual(self.raised(desk, "order 6")[0], InvalidNumber)

    def test_errors_of_the_functions(self):
        desk = Console()
        self.run_all(desk, "now 1 2 2 3", "wish 9 1 1 -8")
        for question in ("orders", "order 0", "order 99"):
            self.assertEqual(self.raised(desk, question), (Missing, {"value": -8}))
        self.assertEqual(self.run_all(desk, "fewest", "steps", "ticks 3"), ["none", "none", "none"])
        desk.execute("wish 2 1 1 3")
        self.assertEqual(self.raised(desk, "orders"), (HeldTwice, {"value": 2}))
        for width in (0, 4, 60):
            self.assertEqual(self.raised(desk, f"ticks {width}")[0], InvalidNumber)
        for command in ("move 0 0", "swap 3 3", "move 0 4", "swap 4 0", "move 60 61"):
            self.assertEqual(self.raised(desk, command)[0], InvalidCell)
        self.assertEqual(self.raised(desk, "undo")[0], NothingToUndo)
        self.run_all(desk, "now 1 1 2 2 3 3 4 4 5", "wish 2 2 1 1 4 4 3 3 1")
        self.assertEqual(self.raised(desk, "steps"), (TooLarge, {"limit": 8}))


class CommandsTest(unittest.TestCase):
    def check_none(self, desk, command):
        with self.assertRaises(InvalidCommand) as caught:
            desk.execute(command)
        self.assertIs(type(caught.exception), InvalidCommand)

    def wrong_commands(self):
        """What is no command for three cells."""
        found = ["", " ", "  ", "-", "0", "help", "now", "wish", "ticks", "order", "move", "swap", "nows 1",
                 "Now 1 2 3", "NOW 1", "fewest-", "ring", "exit", "at_once 0 1", "plan 1 2 3", "now,1", "content",
                 "deeds"]
        found += [word + " " for word in PLAIN] + [" " + word for word in PLAIN] + [word + " 0" for word in PLAIN]
        found += [word.upper() for word in PLAIN] + [word + word for word in PLAIN] + [word + "  " for word in PLAIN]
        for word in [*NO_NUMBERS, "-"]:
            found += ["now " + word, "now 1 " + word, "now " + word + " 1", "ticks " + word, "order " + word]
            found += ["move 0 " + word, "move " + word + " 1", "swap 0 " + word, "swap " + word + " 1"]
            if word != "-":
                found += ["wish " + word + " 1 2", "wish 1 2 " + word, "wish - " + word + " -"]
        found += ["ticks -1", "order -1", "move -1 0", "move 0 -1", "swap 0 -1", "swap -1 1"]
        found += ["ticks 1 2", "order 0 0", "move 0", "move 0 1 2", "swap 1", "swap 0 1 2", "move  0 1", "move 0  1",
                  "swap 0 1 ", " swap 0 1", "ticks  1", "ticks 1 ", " now 1", "now  1", "now 1 ", "now 1  2"]
        return found + ["wish 1 2", "wish 1 2 3 4", "wish - -", "wish - - - -", "wish  1 2 3", "wish 1 2 3 ", "wish 1",
                        "now " + " ".join(["1"] * 61), "now " + "1 " * 1990]

    def test_whatever_is_none(self):
        desk = Console()
        desk.execute("now 1 2 9")
        desk.execute("wish 2 1 -")
        desk.execute("move 0 2")
        for command in self.wrong_commands() + ANYTHING:
            self.check_none(desk, command)
        # None of them has changed anything.
        found = [desk.execute(command) for command in ["fewest", "wrong", "lost", "undo", "rings", "wrong"]]
        self.assertEqual(found, ["2", "0 1", "9", "ok", "0-1", "0 1"])

    def test_without_cells(self):
        desk = Console()
        for command in PLAIN + QUESTIONS + ["wish", "wish 1", "wish -", "move 0 1", "swap 0 1", "move 0 0", "ticks 9"]:
            self.check_none(desk, command)
        for command in self.wrong_commands() + ANYTHING:
            self.check_none(desk, command)
        self.assertEqual(desk.execute("now 1"), "ok")
        self.assertEqual(desk.execute("fewest"), "0")

    def test_a_command_that_raises_changes_nothing(self):
        desk = Console()
        for command in ("now 1 2 9", "wish 2 1 -", "swap 1 2", "move 0 1"):
            desk.execute(command)
        before = [answered(desk, question) for question in QUESTIONS]
        for command in ["now 1 x", "now", "wish 1 2", "wish 1 2 x", "move 0 3", "move 1 1", "swap 3 0", "ticks 0",
                        "order 7", "order x", None, "undo undo"]:
            self.assertIsInstance(answered(desk, command), tuple)
            self.assertEqual([answered(desk, question) for question in QUESTIONS], before)
        self.assertEqual([desk.execute("undo"), desk.execute("undo")], ["ok", "ok"])
        self.assertEqual(answered(desk, "undo"), (NothingToUndo, {}))
        self.assertEqual(desk.execute("wrong"), "0 1")

    def test_two_consoles(self):
        first, second = Console(), Console()
        first.execute("now 1 2")
        self.check_none(second, "fewest")
        second.execute("now 3 4 5")
        first.execute("move 0 1")
        second.execute("wish 4 3 -")
        self.assertEqual([first.execute("wrong"), second.execute("wrong")], ["1", "0 1"])
        self.assertEqual([first.execute("lost"), second.execute("lost")], ["2", "none"])

    def test_two_hundred_changes(self):
        desk = Console()
        desk.execute("now 1 2 3")
        for number in range(99):
            desk.execute("swap 0 1" if number % 2 else "move 1 2")
        for _ in range(99):
            self.assertEqual(desk.execute("undo"), "ok")
        self.assertEqual(desk.execute("swap 0 2"), "3 2 1")

    def test_by_name(self):
        desk = Console()
        self.assertEqual([desk.execute(command="now 4 5"), desk.execute(command="swap 0 1")], ["ok", "5 4"])
        for name in ("execute",):
            self.assertIn(name, vars(Console))

    def test_all_widths_and_cells(self):
        desk = Console()
        desk.execute("now 1 2 3")
        desk.execute("wish 2 3 1")
        self.assertEqual([desk.execute(f"ticks {width}") for width in (1, 2, 3)], ["none", "2", "1"])
        for a, b in itertools.permutations(range(3), 2):
            held = [1, 2, 3]
            held[b] = held[a]
            self.assertEqual(desk.execute(f"move {a} {b}"), words_of(held))
            desk.execute("undo")


if __name__ == "__main__":
    unittest.main()
