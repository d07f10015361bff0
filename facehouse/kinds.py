"""Kinds: how they are marked, whom they name, which are plain, and which numbers tell their values (4, 10, 14)."""

MARKS = {"whole": 1, "truth": 1, "choice": 1, "text": 2, "list": 3, "record": 4}
GREATEST_MARK = 4
PLAIN_KINDS = ("whole", "truth", "text", ("list", "whole"), ("list", "truth"), ("list", "text"))


def word_of(kind):
    """The word that a kind begins with."""
    return kind if isinstance(kind, str) else kind[0]


def mark_of(kind):
    """The mark of a kind."""
    return MARKS[word_of(kind)]


def is_plain(kind):
    """Whether a kind is whole, truth, text or a list of these."""
    return kind in PLAIN_KINDS


def name_in(kind):
    """The name in a kind that has one, of a list that in its values' kind."""
    word, inner = kind
    return name_in(inner) if word == "list" else inner


def names_nobody(face, kind):
    """Whether a kind, or that of a list's values, names a choice or a record that isn't there."""
    if isinstance(kind, str):
        return False
    word, inner = kind
    if word == "list":
        return names_nobody(face, inner)
    rows = face.choices if word == "choice" else face.records
    return inner not in [name for name, parts in rows]


def number_of(face, kind, value):
    """The number that tells a value of a kind that is whole, truth or a choice."""
    word = word_of(kind)
    if word == "choice":
        return [number for number, option in face.options_of(kind[1]) if option == value][0]
    if word == "truth":
        return 1 if value else 0
    return value
