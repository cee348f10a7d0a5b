"""A console: commands in words, and their answers."""

from valuesmoved.cells import wrong_cells
from valuesmoved.checks import MOST_CELLS
from valuesmoved.errors import InvalidCommand
from valuesmoved.fewest import fewest_moves
from valuesmoved.live import Cells
from valuesmoved.orders import count_orders, nth_order
from valuesmoved.rings import rings
from valuesmoved.swaps import fewest_steps
from valuesmoved.ticks import fewest_ticks
from valuesmoved.words import is_count, is_item, is_number, item_of

# How many numbers stand behind the commands that always have equally many.
COUNTS = {
    "fewest": 0, "steps": 0, "ticks": 1, "wrong": 0, "lost": 0, "rings": 0, "orders": 0, "order": 1, "move": 2,
    "swap": 2, "undo": 0,
}
DONE = "ok"
NOTHING = "none"


class Console:
    """Cells and a wish for them, and what can be asked about both."""

    def __init__(self):
        self._cells = None
        self._wish = None

    def execute(self, command):
        """Runs a command; returns its answer."""
        name, *words = command.split(" ") if isinstance(command, str) else [""]
        if name == "now":
            return self._begin(words)
        if self._cells is None:
            raise InvalidCommand("there are no cells, or it is no command")
        if name == "wish":
            return self._want(words)
        if COUNTS.get(name) != len(words) or not all([is_count(word) for word in words]):
            raise InvalidCommand("no command")
        numbers = [int(word) for word in words]
        return self._change(name, numbers) if name in ("move", "swap", "undo") else self._answer(name, numbers)

    def _begin(self, words):
        """Takes new cells, which want what they hold."""
        if not 1 <= len(words) <= MOST_CELLS or not all([is_number(word) for word in words]):
            raise InvalidCommand("not from 1 to 60 numbers")
        self._cells = Cells([int(word) for word in words])
        self._wish = self._cells.contents
        return DONE

    def _want(self, words):
        """Takes another wish."""
        if len(words) != len(self._wish) or not all([is_item(word) for word in words]):
            raise InvalidCommand("not one item for each cell")
        self._wish = [item_of(word) for word in words]
        return DONE

    def _change(self, name, numbers):
        """Does a deed, or takes one back."""
        if name == "undo":
            self._cells.undo()
            return DONE
        cell, other = numbers
        return _listed(self._cells.move(cell, other) if name == "move" else self._cells.swap(cell, other))

    def _answer(self, name, numbers):
        """The answer to a command that changes nothing."""
        now, wish = self._cells.contents, self._wish
        if name == "fewest":
            return _told(fewest_moves(now, wish))
        if name == "steps":
            return _told(fewest_steps(now, wish))
        if name == "ticks":
            return _told(fewest_ticks(now, wish, numbers[0]))
        if name == "wrong":
            return _listed(wrong_cells(now, wish))
        if name == "lost":
            return _listed(self._cells.lost)
        if name == "rings":
            return _listed(["-".join([str(cell) for cell in ring]) for ring in rings(now, wish)])
        if name == "orders":
            return _told(count_orders(now, wish))
        return _listed(nth_order(now, wish, numbers[0]))


def _told(number):
    """The answer that is a number, or None."""
    return NOTHING if number is None else str(number)


def _listed(items):
    """The answer that is a list."""
    return " ".join([str(item) for item in items]) if items else NOTHING
