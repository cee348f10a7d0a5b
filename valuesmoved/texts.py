"""Texts of contents, wishes and rows."""

from valuesmoved.checks import MOST_CELLS, MOST_STEPS, check_cells, check_now, check_row, check_wish, is_step
from valuesmoved.errors import InvalidText
from valuesmoved.words import is_count, is_item, is_number, item_of, word_of

# What stands between the two cells of a step.
SIGNS = {"move": ">", "swap": "="}


def format_now(now):
    """The text of a content."""
    check_now(now)
    return " ".join([str(item) for item in now])


def format_wish(now, wish):
    """The text of a wish."""
    check_wish(now, wish)
    return " ".join([word_of(item) for item in wish])


def format_row(cells, row):
    """The text of a row."""
    check_cells(cells)
    check_row(cells, row)
    return " ".join([f"{source}{SIGNS[word]}{target}" for word, source, target in row])


def parse_now(text):
    """The content that has this text."""
    words = _words(text)
    _check_words([is_number(word) for word in words], MOST_CELLS)
    return [int(word) for word in words]


def parse_wish(now, text):
    """The wish for the content that has this text."""
    check_now(now)
    words = _words(text)
    _check_words([is_item(word) for word in words], len(now))
    if len(words) < len(now):
        raise InvalidText(len(words))
    return [item_of(word) for word in words]


def parse_row(cells, text):
    """The row for so many cells that has this text."""
    check_cells(cells)
    words = _words(text)
    if text == "":
        return []
    steps = [_step_of(cells, word) for word in words]
    _check_words([step is not None for step in steps], MOST_STEPS)
    return steps


def _words(text):
    """The words of a text; InvalidText unless it is a string."""
    if not isinstance(text, str):
        raise InvalidText(None)
    return text.split(" ")


def _check_words(right, most):
    """InvalidText with the first word that is not right, or is one too many."""
    for place, word_is_right in enumerate(right):
        if place >= most or not word_is_right:
            raise InvalidText(place)


def _step_of(cells, word):
    """The step for so many cells that has this word, or None."""
    for name, sign in SIGNS.items():
        source, _, target = word.partition(sign)
        if is_count(source) and is_count(target):
            step = (name, int(source), int(target))
            return step if is_step(cells, step) else None
    return None
