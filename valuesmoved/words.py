"""The words of texts: numbers, and items of wishes."""

from valuesmoved.checks import is_held

DIGITS = "0123456789"
# 10 ** 30 has so many.
MOST_DIGITS = 31
FREE = "-"


def is_count(word):
    """Whether the word is a number without a sign."""
    if not 1 <= len(word) <= MOST_DIGITS or not all([sign in DIGITS for sign in word]):
        return False
    return (word == "0" or word[0] != "0") and is_held(int(word))


def is_number(word):
    """Whether the word is a number."""
    if word.startswith("-"):
        return word != "-0" and is_count(word[1:])
    return is_count(word)


def is_item(word):
    """Whether the word is an item of a wish."""
    return word == FREE or is_number(word)


def item_of(word):
    """The item of a wish that has this word."""
    return None if word == FREE else int(word)


def word_of(item):
    """The word of an item of a wish."""
    return FREE if item is None else str(item)
