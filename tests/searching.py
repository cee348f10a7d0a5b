"""The least numbers, found by search through all that can be reached, without any fact of DOC.md."""

import itertools


def all_moves(cells):
    return [(a, b) for a in range(cells) for b in range(cells) if a != b]


def move_deeds(cells):
    """All moves, each as what is done at once."""
    return [[move] for move in all_moves(cells)]


def kind_deeds(kinds):
    """All moves but those from memory to memory."""
    return [[(a, b)] for a, b in all_moves(len(kinds)) if kinds[a] + kinds[b] != "mm"]


def swap_deeds(cells):
    return [[(a, b), (b, a)] for a, b in all_moves(cells) if a < b]


def tick_deeds(cells, width):
    """All ticks of the width."""
    found = []
    for many in range(1, width + 1):
        for targets in itertools.combinations(range(cells), many):
            sources = [[a for a in range(cells) if a != b] for b in targets]
            found += [list(zip(chosen, targets)) for chosen in itertools.product(*sources)]
    return found


def distances(now, deeds):
    """For each content that the deeds lead to, as a tuple: the least number of deeds."""
    start = tuple(now)
    found = {start: 0}
    reached = [start]
    for held in reached:
        behind = found[held] + 1
        for deed in deeds:
            left = list(held)
            for source, target in deed:
                left[target] = held[source]
            left = tuple(left)
            if left not in found:
                found[left] = behind
                reached.append(left)
    return found


def least_of_wishes(now, deeds, free=0):
    """For each wish that the deeds do, as a tuple: the least number of deeds. What is not there is not done.
    The wishes are those in which the last cells, so many, are free."""
    masks = [(*mask, *[False] * free) for mask in itertools.product([True, False], repeat=len(now) - free)]
    least = {}
    for held, number in distances(now, deeds).items():
        for mask in masks:
            wish = tuple(item if kept else None for item, kept in zip(held, mask))
            if least.get(wish, number) >= number:
                least[wish] = number
    return least


def all_contents(cells):
    """All contents, but for other names of the values: these are 0, 1 .. in the sequence in which they come."""
    return [list(now) for now in itertools.product(range(cells), repeat=cells)
            if all(item <= len(set(now[:at])) for at, item in enumerate(now))]


def all_wishes(cells):
    """All wishes for the values of all_contents, and for one that no cell holds."""
    return [list(wish) for wish in itertools.product([None, *range(cells + 1)], repeat=cells)]


def is_done_within(now, wish, deeds, width, number):
    """Whether so many ticks of the width, which the deeds are, do the wish; for contents too many to reach them all."""
    wrong = [cell for cell, item in enumerate(wish) if item is not None and item != now[cell]]
    # A tick makes no more cells right than it is wide, and brings no value back.
    if len(wrong) > width * number or any(wish[cell] not in now for cell in wrong):
        return False
    if number <= 1 or not wrong:
        return True
    for deed in deeds:
        left = list(now)
        for source, target in deed:
            left[target] = now[source]
        if is_done_within(left, wish, deeds, width, number - 1):
            return True
    return False
