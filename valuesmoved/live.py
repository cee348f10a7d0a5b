"""Cells that live: values are moved in them, deed by deed, and deeds are taken back."""

from valuesmoved.checks import check_now, check_pair, check_steps, is_numbers_of, is_tick
from valuesmoved.errors import InvalidKept, InvalidTicks, Lost, NothingToUndo
from valuesmoved.fewest import some_moves
from valuesmoved.unchecked import behind_row, behind_ticks

# How many moves can be done at once.
WIDTH = 3


class Cells:
    """Cells that hold a content."""

    def __init__(self, now):
        check_now(now)
        # The content ahead of each deed, and behind the last one.
        self._held = [list(now)]
        self._deeds = []
        # Only the classes that keep values have some, but all are compared by them.
        self._kept = None

    def __len__(self):
        return len(self._deeds)

    def __eq__(self, other):
        """Whether it is of the same class, was made with the same arguments and has equal deeds."""
        return (
            type(self) is type(other)
            and self._held[0] == other._held[0]
            and self._kept == other._kept
            and self._deeds == other._deeds
        )

    @property
    def contents(self):
        """The content."""
        return list(self._held[-1])

    @property
    def deeds(self):
        """The list of the deeds that are not taken back."""
        return [_copied(deed) for deed in self._deeds]

    @property
    def lost(self):
        """The ascending list of the values that a cell held at first and none holds now."""
        held = self._held[-1]
        return sorted({value for value in self._held[0] if value not in held})

    def move(self, cell, other):
        """Lets the other cell hold what the cell holds; returns the content behind it."""
        check_pair(len(self._held[0]), cell, other)
        return self._do(("move", cell, other))

    def swap(self, cell, other):
        """Exchanges what both cells hold; returns the content behind it."""
        check_pair(len(self._held[0]), cell, other)
        return self._do(("swap", cell, other))

    def at_once(self, moves):
        """Does a tick of the width 3; returns the content behind it."""
        _check_moves(len(self._held[0]), moves)
        return self._do(("at_once", list(moves)))

    def undo(self):
        """Takes back the last deed that is not taken back."""
        if not self._deeds:
            raise NothingToUndo("each deed is taken back")
        self._deeds.pop()
        self._held.pop()

    def plan(self, wish):
        """A shortest row of moves that does the wish for the content now."""
        return some_moves(self._held[-1], wish)

    def tried(self, *steps):
        """The content behind some steps, which are not done."""
        check_steps(len(self._held[0]), steps)
        return behind_row(self._held[-1], steps)

    def twin(self):
        """An independent object with the same content and the same deeds to undo."""
        return self._as_now(Cells(self._held[0]))

    def described(self):
        """The content, the number of deeds, and None twice."""
        return self.contents, len(self._deeds), None, None

    def _as_now(self, fresh):
        """A new object that was made with the same arguments, with the same deeds."""
        fresh._held = [list(held) for held in self._held]
        fresh._deeds = self.deeds
        return fresh

    def _do(self, deed):
        """Does a deed that is known to be right."""
        self._held.append(_behind(self._held[-1], deed))
        self._deeds.append(deed)
        return self.contents


class KeepingCells(Cells):
    """Cells in which some values are never lost."""

    def __init__(self, now, kept):
        Cells.__init__(self, now)
        if not is_numbers_of(kept, now):
            raise InvalidKept("no ascending list of values that the content holds")
        self._kept = list(kept)

    def move(self, cell, other):
        """Lets the other cell hold what the cell holds, unless a kept value is lost."""
        check_pair(len(self._held[0]), cell, other)
        self._check_kept(_behind(self._held[-1], ("move", cell, other)))
        return super().move(cell, other)

    def swap(self, cell, other):
        """Exchanges what both cells hold, by which no value is lost."""
        return super().swap(cell, other)

    def at_once(self, moves):
        """Does a tick of the width 3, unless a kept value is lost."""
        _check_moves(len(self._held[0]), moves)
        self._check_kept(_behind(self._held[-1], ("at_once", moves)))
        return super().at_once(moves)

    def tried(self, *steps):
        """The content behind some steps, none of which loses a kept value."""
        check_steps(len(self._held[0]), steps)
        held = self.contents
        for step in steps:
            held = _behind(held, step)
            self._check_kept(held)
        return held

    def twin(self):
        """An independent object with the same content and the same deeds to undo."""
        return self._as_now(KeepingCells(self._held[0], self._kept))

    def described(self):
        """The content, the number of deeds, the kept values, and None."""
        return self.contents, len(self._deeds), list(self._kept), None

    def _check_kept(self, held):
        """Lost with the least kept value that no cell holds."""
        for value in self._kept:
            if value not in held:
                raise Lost(value)


class CountingCells(Cells):
    """Cells that tell how often they were written."""

    def __init__(self, now):
        Cells.__init__(self, now)

    @property
    def writes(self):
        """For each cell: how often it was written by the deeds that are not taken back."""
        counts = [0] * len(self._held[0])
        for deed in self._deeds:
            for cell in _written(deed):
                counts[cell] += 1
        return counts

    def twin(self):
        """An independent object with the same content and the same deeds to undo."""
        return self._as_now(CountingCells(self._held[0]))

    def described(self):
        """The content, the number of deeds, None, and the writes."""
        return self.contents, len(self._deeds), None, self.writes


class KeepingCountingCells(KeepingCells, CountingCells):
    """Cells in which some values are never lost, and that tell how often they were written."""

    def __init__(self, now, kept):
        KeepingCells.__init__(self, now, kept)

    def twin(self):
        """An independent object with the same content and the same deeds to undo."""
        return self._as_now(KeepingCountingCells(self._held[0], self._kept))

    def described(self):
        """The content, the number of deeds, the kept values, and the writes."""
        return self.contents, len(self._deeds), list(self._kept), self.writes


def _check_moves(cells, moves):
    """InvalidTicks unless any value is a tick that can be done at once."""
    if not is_tick(cells, WIDTH, moves):
        raise InvalidTicks(None)


def _behind(held, deed):
    """The content behind a deed."""
    if deed[0] == "at_once":
        return behind_ticks(held, [deed[1]])
    return behind_row(held, [deed])


def _written(deed):
    """The cells that a deed writes."""
    if deed[0] == "at_once":
        return [target for _, target in deed[1]]
    word, cell, other = deed
    return [other] if word == "move" else [cell, other]


def _copied(deed):
    """The same deed, with a list of its own."""
    return ("at_once", list(deed[1])) if deed[0] == "at_once" else deed
