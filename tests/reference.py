"""Bodies, and which records read which, once more for the tests, in another way than the program does it (9 to 12)."""

import itertools
import random

KIND_MARKS = {"whole": 1, "truth": 1, "choice": 1, "text": 2, "list": 3, "record": 4}


def mark(kind):
    return KIND_MARKS[kind if isinstance(kind, str) else kind[0]]


def sized(content):
    """A content with its size ahead."""
    if len(content) < 200:
        return bytes([len(content)]) + content
    return bytes([200 + len(content) // 256, len(content) % 256]) + content


def encoded(face, kind, value):
    """The content of a value, as bytes."""
    if kind == "text":
        return value.encode("ascii")
    if kind in ("whole", "truth"):
        return int(value).to_bytes(8, "big").lstrip(b"\0")
    if kind[0] == "choice":
        return bytes([number for number, word in dict(face.choices)[kind[1]] if word == value])
    if kind[0] == "list":
        return bytes([mark(kind[1])]) + b"".join(sized(encoded(face, kind[1], one)) for one in value)
    rows = [row for row in dict(face.records)[kind[1]] if row[1] in value]
    return b"".join(bytes([row[0], mark(row[2])]) + sized(encoded(face, row[2], value[row[1]])) for row in rows)


def body_of(face, record, value):
    """The body of a value."""
    return tuple(encoded(face, ("record", record), value))


class Refused(Exception):
    """What was to be decoded is no content of its kind."""


class Taker:
    """Takes numbers off a content, and never more than there are."""

    def __init__(self, content):
        self.rest = list(content)

    def take(self, many=1):
        if len(self.rest) < many:
            raise Refused
        taken, self.rest = self.rest[:many], self.rest[many:]
        return taken

    def part(self):
        first = self.take()[0]
        if first < 200:
            return self.take(first)
        size = 256 * (first - 200) + self.take()[0]
        if size < 200:
            raise Refused
        return self.take(size)


def decoded(face, kind, content, around=0):
    """The value that a content tells, or Refused; around is how many records and lists lie around it."""
    if kind == "text":
        if len(content) > 20 or any(code < 32 or code > 126 or code == 37 for code in content):
            raise Refused
        return "".join(map(chr, content))
    if mark(kind) == 1:
        return decoded_number(face, kind, content)
    if around == 80:
        raise Refused
    taker = Taker(content)
    if kind[0] == "list":
        inner = kind[1]
        if not isinstance(inner, str) and inner[1] not in dict(face.choices) | dict(face.records):
            raise Refused
        if taker.take() != [mark(inner)]:
            raise Refused
        values = []
        while taker.rest:
            values.append(decoded(face, inner, taker.part(), around + 1))
        if len(values) > 6:
            raise Refused
        return tuple(values)
    return decoded_record(face, kind, taker, around)


def decoded_number(face, kind, content):
    if bytes(content[:1]) == b"\0":
        raise Refused
    number = int.from_bytes(bytes(content), "big")
    if kind == "whole":
        values = {number: number} if number <= 10**9 else {}
    elif kind == "truth":
        values = {0: False, 1: True}
    else:
        values = dict(dict(face.choices).get(kind[1], ()))
    if number not in values:
        raise Refused
    return values[number]


def decoded_record(face, kind, taker, around):
    if kind[1] not in dict(face.records):
        raise Refused
    rows = {row[0]: row for row in dict(face.records)[kind[1]]}
    value, numbers = {}, []
    while taker.rest:
        number, told = taker.take(2)
        content = taker.part()
        numbers.append(number)
        if not 1 <= number <= 30 or not 1 <= told <= 4:
            raise Refused
        if number in rows:
            if mark(rows[number][2]) != told:
                raise Refused
            value[rows[number][1]] = decoded(face, rows[number][2], content, around + 1)
    if numbers != sorted(set(numbers)):
        raise Refused
    if any(row[3] == "must" and row[1] not in value for row in rows.values()):
        raise Refused
    return value


def value_of(face, record, body):
    """The value that a body tells, or Refused."""
    if type(body) is not tuple or any(type(one) is not int or not 0 <= one <= 255 for one in body):
        raise Refused
    return decoded(face, ("record", record), body)


def some_value(face, kind, dice, fuel):
    """A value of a kind, by the throws of dice; where the fuel is spent, without may fields and in short lists."""
    if kind == "whole":
        return dice.choice((0, 1, 2, 9, 255, 256, 65535, 65536, 10**9 - 1, 10**9, dice.randrange(10**9)))
    if kind == "truth":
        return dice.random() < 0.5
    if kind == "text":
        signs = [chr(code) for code in range(32, 127) if code != 37]
        return "".join(dice.choices(signs, k=dice.choice((0, 1, 2, 19, 20))))
    if kind[0] == "choice":
        return dice.choice(dict(face.choices)[kind[1]])[1]
    if kind[0] == "list":
        many = dice.randrange(7) if fuel > 0 else 0
        return tuple(some_value(face, kind[1], dice, fuel - 1 - many) for _ in range(many))
    rows = [row for row in dict(face.records)[kind[1]] if row[3] == "must" or (fuel > 0 and dice.random() < 0.6)]
    dice.shuffle(rows)
    return {row[1]: some_value(face, row[2], dice, fuel - 2) for row in rows}


def pairs_that_read(reader, writer):
    """All pairs of records that read: those that are left where what doesn't is struck out again and again."""
    records, others = dict(reader.records), dict(writer.records)
    left = set(itertools.product(records, others))
    while True:
        kept = {pair for pair in left if fields_read(reader, records[pair[0]], writer, others[pair[1]], left)}
        if kept == left:
            return left
        left = kept


def fields_read(reader, fields, writer, others, left):
    theirs = {number: (kind, need) for number, _, kind, need in others}
    for number, _, kind, need in fields:
        if need == "must" and theirs.get(number, (None, "may"))[1] != "must":
            return False
        if number in theirs and not kind_reads(reader, kind, writer, theirs[number][0], left):
            return False
    return True


def kind_reads(reader, kind, writer, other, left):
    word, other_word = [one if isinstance(one, str) else one[0] for one in (kind, other)]
    if word in ("text", "list", "record") or other_word in ("text", "list", "record"):
        if word != other_word:
            return False
        if word == "list":
            return kind_reads(reader, kind[1], writer, other[1], left)
        return word == "text" or (kind[1], other[1]) in left
    return word == "whole" or numbers_of(writer, other) <= numbers_of(reader, kind)


def numbers_of(face, kind):
    if kind == "whole":
        return {0, 1, 99}
    return {0, 1} if kind == "truth" else {number for number, _ in dict(face.choices)[kind[1]]}


def dice_of(seed):
    """Dice that fall alike in every run."""
    return random.Random(seed)
