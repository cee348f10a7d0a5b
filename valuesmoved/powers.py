"""What a source list does if it is done again and again."""

from valuesmoved.checks import check_number, check_sources, check_turns
from valuesmoved.turning import cost_of, period_of, round_cells, turns_of


def power_of(sources, turns):
    """The source list of so many turns."""
    check_sources(sources)
    check_turns(turns)
    return turns_of(sources, turns)


def index_and_period(sources):
    """From which turn on the source list goes round, and behind how many turns it is there again."""
    check_sources(sources)
    going = [cell for way in round_cells(sources) for cell in way]
    index = 0
    left = list(range(len(sources)))
    # What is asked for behind each turn, until only cells that go round are asked.
    while any([cell not in going for cell in left]):
        left = [sources[cell] for cell in left]
        index += 1
    return index, period_of(sources)


def same_turns(sources, turns, number):
    """Whether both numbers of turns have the same source list."""
    check_sources(sources)
    check_turns(turns)
    check_turns(number)
    return turns_of(sources, turns) == turns_of(sources, number)


def kept_cells(sources, turns):
    """The ascending list of the cells whose first value some cell holds behind so many turns."""
    check_sources(sources)
    check_turns(turns)
    behind = turns_of(sources, turns)
    return sorted(set(behind))


def turns_back(sources):
    """The least number of turns, from 1 on, behind which each cell holds its first value, or None."""
    check_sources(sources)
    if sorted(sources) != list(range(len(sources))):
        return None
    return period_of(sources)


def fewest_for(sources, free, turns):
    """The fewest moves for the source list of so many turns with so many free cells, or None."""
    check_sources(sources)
    check_number(free)
    check_turns(turns)
    return cost_of(turns_of(sources, turns), free)
