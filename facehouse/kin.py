"""Which edition's record reads which, and where it doesn't, a value that shows it (12)."""

from facehouse.kinds import mark_of, number_of, word_of
from facehouse.values import GREATEST_WHOLE, least, least_of


def reads(reader, one, writer, other):
    """Whether the reader's record one reads each body that the writer writes of its record other."""
    return unread(reader, one, writer, other) is None


def unread(reader, one, writer, other):
    """A value of the writer's record other whose body the reader's record one refuses; None where it reads.

    Pairs of records are looked at once each, the nearest first, so rings come to an end and the value
    lies as few records deep as can be.
    """
    ways = {(one, other): None}
    pairs = [(one, other)]
    at = 0
    while at < len(pairs):
        pair = pairs[at]
        value = unread_here(reader, pair[0], writer, pair[1])
        if value is not None:
            return wrapped(writer, ways, pair, value)
        for below, field, is_listed in pairs_below(reader, pair[0], writer, pair[1]):
            if below not in ways:
                ways[below] = (pair, field, is_listed)
                pairs.append(below)
        at += 1
    return None


def unread_here(reader, one, writer, other):
    """A value of a writer's record that is refused whatever its inner records are read by; None where none is."""
    theirs = fields_by_number(writer, other)
    for number, name, kind, need in reader.fields_of(one):
        if need == "must" and (number not in theirs or theirs[number][2] == "may"):
            return least(writer, other)
        if number in theirs:
            field, their_kind, their_need = theirs[number]
            part = unread_part(reader, kind, writer, their_kind)
            if part is not None:
                value = least(writer, other)
                value[field] = part
                return value
    return None


def fields_by_number(face, record):
    """The fields of a record as (name, kind, need), by their numbers."""
    return {number: (name, kind, need) for number, name, kind, need in face.fields_of(record)}


def unread_part(reader, kind, writer, their_kind):
    """A value of the writer's kind that the reader's kind refuses, records not looked into; None where none is."""
    if mark_of(kind) != mark_of(their_kind):
        return least_of(writer, their_kind)
    word = word_of(kind)
    if word == "list":
        part = unread_part(reader, kind[1], writer, their_kind[1])
        return None if part is None else (part,)
    if word in ("text", "record"):
        return None
    return unread_numbered(reader, kind, writer, their_kind)


def unread_numbered(reader, kind, writer, their_kind):
    """As unread_part, of kinds that are whole, truth or a choice."""
    for value in telling_values(writer, their_kind):
        if not can_be(reader, kind, number_of(writer, their_kind, value)):
            return value
    return None


def telling_values(face, kind):
    """Values of a kind, among them one that another kind of number can't be, where there is one."""
    if kind == "whole":
        # No truth and no choice can be this; what can, can be all the lesser ones.
        return [GREATEST_WHOLE]
    if kind == "truth":
        return [False, True]
    return [word for number, word in face.options_of(kind[1])]


def can_be(face, kind, number):
    """Whether a value of a kind that is whole, truth or a choice is told by this number."""
    if kind == "whole":
        return True
    if kind == "truth":
        return number <= 1
    return number in [option for option, word in face.options_of(kind[1])]


def pairs_below(reader, one, writer, other):
    """The pairs of records in fields of like numbers, each with the writer's field, and whether it is a list."""
    theirs = fields_by_number(writer, other)
    found = []
    for number, name, kind, need in reader.fields_of(one):
        if number in theirs:
            field, their_kind, their_need = theirs[number]
            is_listed = word_of(kind) == "list"
            inner, their_inner = (kind[1], their_kind[1]) if is_listed else (kind, their_kind)
            if word_of(inner) == "record":
                found.append(((inner[1], their_inner[1]), field, is_listed))
    return found


def wrapped(writer, ways, pair, value):
    """A value of the outermost record that has a value of a pair's record within it, by the way that led there."""
    outer = value
    way = ways[pair]
    while way is not None:
        above, field, is_listed = way
        inner = outer
        outer = least(writer, above[1])
        outer[field] = (inner,) if is_listed else inner
        way = ways[above]
    return outer
