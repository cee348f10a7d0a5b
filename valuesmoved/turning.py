"""What source lists that are known to be right do, once or again and again, and what they cost."""

from math import lcm

from valuesmoved.unchecked import fewest_in, rounds


def turns_of(sources, turns):
    """The source list of so many turns."""
    behind = list(range(len(sources)))
    power = list(sources)
    while turns > 0:
        if turns % 2 == 1:
            behind = [power[cell] for cell in behind]
        power = [power[cell] for cell in power]
        turns //= 2
    return behind


def round_cells(sources):
    """For each way on which a source list goes round, the tuple of its cells."""
    return rounds(dict(enumerate(sources)))


def period_of(sources):
    """The least number of turns behind which all cells that go round are back."""
    period = 1
    for way in round_cells(sources):
        period = lcm(period, len(way))
    return period


def cost_of(sources, free):
    """The fewest moves for a source list with so many free cells beside it, or None."""
    cells = len(sources)
    # One free cell is enough, and nobody wants what it holds.
    if free > 0:
        return fewest_in(list(range(cells + 1)), [*sources, None])
    return fewest_in(list(range(cells)), sources)
