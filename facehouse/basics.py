"""What all other modules are built on: whole numbers, names, and rows that rise or are unlike (2)."""

LETTERS = "abcdefghijklmnopqrstuvwxyz"
FIGURES = "0123456789"
LONGEST_NAME = 8
LONGEST_NUMBER = 30
# The greatest number of an option, a field or a call.
GREATEST_NUMBER = 30


def is_whole(thing):
    """Whether any thing is a whole number: truths are ints to Python, but none here."""
    return isinstance(thing, int) and not isinstance(thing, bool)


def is_name(thing):
    """Whether any thing is a name."""
    return isinstance(thing, str) and 1 <= len(thing) <= LONGEST_NAME and all([sign in LETTERS for sign in thing])


def is_number_text(word):
    """Whether a word writes a number: figures alone, no nought ahead of others.

    The signs are looked at one by one, and their count is bounded, because int() reads other
    figures and signs too, and fails at texts that are very long.
    """
    if not 1 <= len(word) <= LONGEST_NUMBER or not all([sign in FIGURES for sign in word]):
        return False
    return word == "0" or word[0] != "0"


def is_rising(things):
    """Whether each of a list's things is more than the one ahead of it."""
    return all([low < high for low, high in zip(things, things[1:])])


def are_unlike(words):
    """Whether no word stands in a list twice."""
    return len(set(words)) == len(words)
