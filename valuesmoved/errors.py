"""The errors of the package: each stands directly under MoveError."""


class MoveError(ValueError):
    """What every error of this package is."""


class InvalidNow(MoveError):
    """No content; index is that of the first item that is none, or None."""

    def __init__(self, index):
        super().__init__(f"no content, the first wrong item is {index}")
        self.index = index


class InvalidWish(MoveError):
    """No wish for the content; index is that of the first item that is none, or None."""

    def __init__(self, index):
        super().__init__(f"no wish, the first wrong item is {index}")
        self.index = index


class InvalidRow(MoveError):
    """No row for the cells; index is that of the first item that is no step, or None."""

    def __init__(self, index):
        super().__init__(f"no row, the first wrong item is {index}")
        self.index = index


class InvalidTicks(MoveError):
    """No ticks for the cells and the width; index is that of the first item that is no tick, or None."""

    def __init__(self, index):
        super().__init__(f"no ticks, the first wrong item is {index}")
        self.index = index


class InvalidSources(MoveError):
    """No source list; index is that of the first item that is none, or None."""

    def __init__(self, index):
        super().__init__(f"no source list, the first wrong item is {index}")
        self.index = index


class InvalidText(MoveError):
    """No text of this kind; place is the index of the first wrong word, or None."""

    def __init__(self, place):
        super().__init__(f"no such text, the first wrong word is {place}")
        self.place = place


class Missing(MoveError):
    """A wrong cell wants value, and no cell holds it."""

    def __init__(self, value):
        super().__init__(f"no cell holds the needed value {value}")
        self.value = value


class HeldTwice(MoveError):
    """The needed value stands in two cells where only one may hold it."""

    def __init__(self, value):
        super().__init__(f"two cells hold the needed value {value}")
        self.value = value


class Lost(MoveError):
    """No cell would hold value any more, and it shall be kept."""

    def __init__(self, value):
        super().__init__(f"no cell would hold the value {value} any more")
        self.value = value


class TooLarge(MoveError):
    """More than limit of what the function counts."""

    def __init__(self, limit):
        super().__init__(f"more than {limit}")
        self.limit = limit


class InvalidKinds(MoveError):
    """No string of one letter, r or m, for each cell."""


class InvalidOrder(MoveError):
    """No order of the wrong cells."""


class InvalidCell(MoveError):
    """None of the cells, or no ascending list of them."""


class InvalidNumber(MoveError):
    """No integer in its range."""


class InvalidKept(MoveError):
    """No ascending list of values that the content holds."""


class InvalidCommand(MoveError):
    """No command of the console, or one that needs cells where there are none."""


class NoMoves(MoveError):
    """Nothing is missing, and yet no moves do the wish."""


class NoSwaps(MoveError):
    """Swaps alone do not do the wish."""


class NotIdle(MoveError):
    """Fewer than two registers are idle."""


class NothingToUndo(MoveError):
    """Each deed is taken back already."""
