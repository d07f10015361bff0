"""Values: whether any thing is one of a face's record, the least one, and like ones (9)."""

from facehouse.basics import is_whole
from facehouse.kinds import names_nobody, number_of, word_of
from facehouse.sizes import digits_of, field_size, part_size

GREATEST_WHOLE = 10 ** 9
LONGEST_TEXT = 20
LONGEST_LIST = 6
GREATEST_BODY = 10000
# How many records and lists may lie within one another, the outermost counted.
DEEPEST = 80
PERCENT = 37
LEAST_PLAIN = {"whole": 0, "truth": False, "text": ""}


def is_value(face, record, thing):
    """Whether any thing is a value of the record of this name; NoName, where the face has none."""
    face.fields_of(record)
    return size_in(face, ("record", record), thing, 0, GREATEST_BODY) is not None


def size_in(face, kind, thing, depth, room):
    """The size of a value's content; None where the thing is no value of the kind, or too great for the room.

    depth is how many records and lists lie around the thing. Records and lists are held against what room
    is left to each, so that a thing that has the same ones many times over is given up in good time.
    """
    if names_nobody(face, kind):
        return None
    word = word_of(kind)
    if word == "record":
        return record_size(face, kind[1], thing, depth + 1, room)
    if word == "list":
        return list_size(face, kind[1], thing, depth + 1, room)
    if word == "text":
        return len(thing) if is_text(thing) else None
    return len(digits_of(number_of(face, kind, thing))) if is_numbered(face, kind, thing) else None


def record_size(face, record, thing, depth, room):
    """As size_in, of a record at a depth."""
    fields = face.fields_of(record)
    if depth > DEEPEST or not isinstance(thing, dict) or not has_names(fields, thing):
        return None
    total = 0
    for number, name, kind, need in fields:
        if name in thing:
            size = size_in(face, kind, thing[name], depth, room - total)
            if size is None:
                return None
            total += field_size(size)
    return total if total <= room else None


def has_names(fields, thing):
    """Whether a dict has the names of all must fields, and no others but those of may fields."""
    if not all([name in thing for number, name, kind, need in fields if need == "must"]):
        return False
    return len(thing) == len([field for field in fields if field[1] in thing])


def list_size(face, kind, thing, depth, room):
    """As size_in, of a list at a depth whose values are of this kind."""
    if depth > DEEPEST or not isinstance(thing, tuple) or len(thing) > LONGEST_LIST:
        return None
    # The mark of its kind stands ahead of the values.
    total = 1
    for part in thing:
        size = size_in(face, kind, part, depth, room - total)
        if size is None:
            return None
        total += part_size(size)
    return total if total <= room else None


def is_text(thing):
    """Whether any thing is a value of the kind text."""
    return isinstance(thing, str) and len(thing) <= LONGEST_TEXT and all([is_sign(ord(sign)) for sign in thing])


def is_sign(code):
    """Whether a code is that of a sign that may stand in a text."""
    return ord(" ") <= code <= ord("~") and code != PERCENT


def is_numbered(face, kind, thing):
    """Whether any thing is a value of a kind that is whole, truth or a choice."""
    if kind == "whole":
        return is_whole(thing) and 0 <= thing <= GREATEST_WHOLE
    if kind == "truth":
        return isinstance(thing, bool)
    return thing in [word for number, word in face.options_of(kind[1])]


def least(face, record):
    """The least value of the record of this name, made anew, or None; NoName, where the face has none."""
    face.fields_of(record)
    size = least_sizes(face).get(record)
    if size is None or size > GREATEST_BODY:
        return None
    return least_of(face, ("record", record))


def least_of(face, kind):
    """The least value of a kind, made anew, where it is known that there is one."""
    word = word_of(kind)
    if word == "record":
        fields = face.fields_of(kind[1])
        return {name: least_of(face, inner) for number, name, inner, need in fields if need == "must"}
    if word == "choice":
        return face.options_of(kind[1])[0][1]
    if word == "list":
        return ()
    return LEAST_PLAIN[word]


def least_sizes(face):
    """Of each record that has a least value the size of its body, however great, by the records' names.

    In each turn those are found that hold by must fields only ones that were found already: records
    that hold themselves so never are, and those without a ring in as many turns as there are records.
    """
    sizes = {}
    for turn in range(len(face.records)):
        for record, fields in face.records:
            parts = [least_size(face, kind, sizes) for number, name, kind, need in fields if need == "must"]
            if None not in parts:
                sizes[record] = sum([field_size(part) for part in parts])
    return sizes


def least_size(face, kind, sizes):
    """The size of the content of a kind's least value, by those of records; None where none is known."""
    if names_nobody(face, kind):
        return None
    word = word_of(kind)
    if word == "record":
        return sizes.get(kind[1])
    if word == "list":
        return 1
    return len(digits_of(number_of(face, kind, least_of(face, kind)))) if word == "choice" else 0


def copied(value):
    """A value like another one that shares no dict with it."""
    if isinstance(value, dict):
        return {name: copied(value[name]) for name in value}
    if isinstance(value, tuple):
        return tuple([copied(part) for part in value])
    return value
