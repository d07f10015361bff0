"""Values as bodies: written number by number, and read only where they are written so (10, 11)."""

from facehouse.basics import GREATEST_NUMBER, is_whole
from facehouse.errors import NoBody
from facehouse.kinds import GREATEST_MARK, mark_of, names_nobody, number_of, word_of
from facehouse.sizes import BASE, FIRST_LONG_SIZE, digits_of, told_size
from facehouse.values import DEEPEST, GREATEST_WHOLE, LONGEST_LIST, LONGEST_TEXT, is_sign

FIRST_CODE = 32
# The signs by their codes, from FIRST_CODE on; a blank keeps the place of the percent sign, which no text has.
SIGNS = (
    " !\"#$ &'()*+,-./0123456789:;<=>?@ABCDEFGHIJKLMNOPQRSTUVWXYZ"
    "[\\]^_`abcdefghijklmnopqrstuvwxyz{|}~"
)


def written(face, record, value):
    """The body of a value of the record of this name."""
    return tuple(record_content(face, record, value))


def content_of(face, kind, value):
    """The content of a value of a kind, as a list of numbers."""
    word = word_of(kind)
    if word == "record":
        return record_content(face, kind[1], value)
    if word == "list":
        return list_content(face, kind[1], value)
    if word == "text":
        return [ord(sign) for sign in value]
    return digits_of(number_of(face, kind, value))


def record_content(face, record, value):
    """The content of a record's value: field by field, as the face has them, not as the dict has them."""
    numbers = []
    for number, name, kind, need in face.fields_of(record):
        if name in value:
            content = content_of(face, kind, value[name])
            numbers.extend([number, mark_of(kind)] + told_size(len(content)) + content)
    return numbers


def list_content(face, kind, values):
    """The content of a list whose values are of this kind."""
    numbers = [mark_of(kind)]
    for value in values:
        content = content_of(face, kind, value)
        numbers.extend(told_size(len(content)) + content)
    return numbers


def read(face, record, body):
    """The value, by the names of this face, that a body tells; NoBody, of any thing that tells none."""
    demand(is_body(body), "a body is a tuple of whole numbers from 0 to 255")
    return read_record(face, record, body, 1)


def demand(holds, why):
    """Refuse the body where something that it must have doesn't hold."""
    if not holds:
        raise NoBody(why)


def is_body(thing):
    """Whether any thing is a tuple of whole numbers from 0 to 255."""
    return isinstance(thing, tuple) and all([is_whole(number) and 0 <= number < BASE for number in thing])


def read_content(face, kind, content, depth):
    """The value of a kind that a content tells; depth is how many records and lists lie around it."""
    demand(not names_nobody(face, kind), "of a kind that names nobody there is no value")
    word = word_of(kind)
    if word == "record":
        return read_record(face, kind[1], content, depth + 1)
    if word == "list":
        return read_list(face, kind[1], content, depth + 1)
    if word == "text":
        return read_text(content)
    return read_numbered(face, kind, read_number(content))


def read_record(face, record, content, depth):
    """The value of a record, at a depth, that a content tells; fields that it hasn't are passed over."""
    demand(depth <= DEEPEST, "at most eighty records and lists lie within one another")
    parts = split_fields(content)
    value = {}
    for number, name, kind, need in face.fields_of(record):
        if number in parts:
            mark, inner = parts[number]
            demand(mark == mark_of(kind), "a field has the mark of its kind")
            value[name] = read_content(face, kind, inner, depth)
        else:
            demand(need == "may", "each must field is there")
    return value


def split_fields(content):
    """The marks and contents of all fields that a record's content tells, by their numbers."""
    parts = {}
    last = 0
    at = 0
    while at < len(content):
        demand(at + 1 < len(content), "a field has a number and a mark")
        number, mark = content[at], content[at + 1]
        demand(last < number <= GREATEST_NUMBER, "numbers of fields rise, from 1 to 30")
        demand(1 <= mark <= GREATEST_MARK, "marks are 1 to 4")
        inner, at = split_part(content, at + 2)
        parts[number] = (mark, inner)
        last = number
    return parts


def split_part(content, at):
    """The content whose size is told at a place, and the place behind it."""
    demand(at < len(content), "a size is told")
    size = content[at]
    begin = at + 1
    if size >= FIRST_LONG_SIZE:
        demand(begin < len(content), "a size from 200 on is told by two numbers")
        size = (size - FIRST_LONG_SIZE) * BASE + content[begin]
        demand(size >= FIRST_LONG_SIZE, "a size below 200 is told by itself")
        begin += 1
    demand(begin + size <= len(content), "a content is as great as its size")
    return content[begin:begin + size], begin + size


def read_list(face, kind, content, depth):
    """The list, at a depth, of values of this kind that a content tells."""
    demand(depth <= DEEPEST, "at most eighty records and lists lie within one another")
    demand(content[:1] == (mark_of(kind),), "a list begins with the mark of its kind")
    values = []
    at = 1
    while at < len(content):
        demand(len(values) < LONGEST_LIST, "a list has at most six values")
        inner, at = split_part(content, at)
        values.append(read_content(face, kind, inner, depth))
    return tuple(values)


def read_text(content):
    """The text that a content tells."""
    demand(len(content) <= LONGEST_TEXT, "a text has at most twenty signs")
    demand(all([is_sign(code) for code in content]), "a text has signs from the blank on, no percent sign")
    return "".join([SIGNS[code - FIRST_CODE] for code in content])


def read_number(content):
    """The number, of those that may be told, whose digits a content is."""
    demand(content[:1] != (0,), "a number has no nought ahead")
    number = 0
    for digit in content:
        number = number * BASE + digit
    demand(number <= GREATEST_WHOLE, "a number is at most 10 ** 9")
    return number


def read_numbered(face, kind, number):
    """The value of a kind that is whole, truth or a choice, which a number tells."""
    if kind == "whole":
        return number
    if kind == "truth":
        demand(number <= 1, "a truth is told by 0 or 1")
        return number == 1
    words = {option: word for option, word in face.options_of(kind[1])}
    demand(number in words, "a word is told by its option's number")
    return words[number]
