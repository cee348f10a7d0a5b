"""Ticks: up to three moves that are done at once, and how few ticks do a wish."""

from valuesmoved.checks import MOST_TICKS, check_cells, check_nothing_missing, check_now, check_ticks, check_width
from valuesmoved.checks import check_wish, is_list_of, is_tick
from valuesmoved.errors import NoMoves
from valuesmoved.unchecked import back_moves, behind_ticks, missing_in, rings_in, wrong_in
from valuesmoved.writing import writes_in


def is_ticks(cells, width, value):
    """Whether any value is ticks of the width for so many cells."""
    check_cells(cells)
    check_width(width)
    return _are_ticks(cells, width, value)


def after_ticks(now, width, ticks):
    """The content behind the ticks."""
    check_now(now)
    check_width(width)
    check_ticks(len(now), width, ticks)
    return behind_ticks(now, ticks)


def fewest_ticks(now, wish, width):
    """The fewest ticks of the width that do the wish, or None."""
    check_wish(now, wish)
    check_width(width)
    if missing_in(now, wish):
        return None
    number, _ = _best(now, wish, width)
    return number


def some_ticks(now, wish, width):
    """So few ticks of the width that do the wish."""
    check_wish(now, wish)
    check_width(width)
    check_nothing_missing(now, wish)
    number, broken = _best(now, wish, width)
    if number is None:
        raise NoMoves("neither a spare cell nor a back cell for the rings")
    found = rings_in(now, wish)
    if broken is None:
        return [tick for ring in found for tick in _ring_ticks(ring, width)]
    turns = [tick for ring in found if ring not in broken for tick in _ring_ticks(ring, width)]
    return _filled(now, turns, writes_in(now, wish, broken), width)


def does_ticks(now, wish, width, value):
    """Whether any value is ticks of the width that do the wish."""
    check_wish(now, wish)
    check_width(width)
    return _are_ticks(len(now), width, value) and not wrong_in(behind_ticks(now, value), wish)


def _are_ticks(cells, width, value):
    """Whether any value is ticks, for cells and a width that are known to be right."""
    return is_list_of(value, 0, MOST_TICKS) and all([is_tick(cells, width, item) for item in value])


def _best(now, wish, width):
    """The fewest ticks, and the rings that are then broken through a scratch cell; nothing is missing.

    None stands for the rings if no scratch cell is used at all, and for both if no ticks do the wish.
    """
    found = rings_in(now, wish)
    back = back_moves(now, wish, found)
    ways = []
    # Where a spare cell is at hand, this is never shorter than the way below.
    if back != 0 and width > 1:
        ways.append((sum([len(_ring_ticks(ring, width)) for ring in found]), None))
    if back is not None:
        ringed = sum([len(ring) for ring in found])
        ways.append(_broken(found, len(wrong_in(now, wish)) - ringed + back, width))
    return min(ways, key=lambda way: way[0], default=(None, None))


def _broken(found, single, width):
    """How many ticks the rings and so many single writes need if some rings are broken, and these rings."""
    broken = [ring for ring in found if len(ring) > width]
    whole = [ring for ring in found if len(ring) <= width]
    writes = single + sum([len(ring) + 1 for ring in broken])
    if width == 3:
        # Three ticks that each turn a pair have room for the three moves that break one more pair.
        pairs = [ring for ring in whole if len(ring) == 2]
        more = max(0, (len(pairs) - writes) // 4)
        broken += pairs[:more]
        whole = [ring for ring in whole if ring not in broken]
        writes += 3 * more
    room = sum([width - len(ring) for ring in whole])
    behind = max(0, writes - room)
    return len(whole) + (behind + width - 1) // width, broken


def _ring_ticks(ring, width):
    """The ticks, at least two cells wide, that turn the ring without any other cell."""
    ticks = []
    while len(ring) > 1:
        part = ring[:width]
        ticks.append([*[(source, target) for target, source in zip(part, part[1:])], (part[0], part[-1])])
        # The last cell of the part now holds what the last cell of the ring wants.
        ring = ring[len(part) - 1:]
    return ticks


def _filled(now, turns, writes, width):
    """The turns of rings, with writes where there is room, and behind them ticks for the other writes."""
    held = list(now)
    left = list(writes)
    ticks = []
    for turn in [*turns, *[[] for _ in writes]]:
        room = width - len(turn)
        tick = [*turn, *[(held.index(value), cell) for cell, value in left[:room]]]
        left = left[room:]
        if tick:
            ticks.append(tick)
            held = behind_ticks(held, [tick])
    return ticks
