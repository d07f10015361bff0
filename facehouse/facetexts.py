"""Faces as texts: written line by line, and read only where they are written just so (6)."""

from facehouse.basics import GREATEST_NUMBER, are_unlike, is_name, is_number_text, is_rising
from facehouse.errors import NoFace
from facehouse.faces import Face

GREATEST_EDITION = 99
MOST_CHOICES = 4
MOST_OPTIONS = 6
MOST_RECORDS = 6
MOST_FIELDS = 5
MOST_CALLS = 6
MOST_DEEDS = 6
PLAIN_WORDS = ("whole", "truth", "text")
NAMED_WORDS = ("choice", "record")
NEEDS = ("must", "may")
# How many words a deed has, its own word counted.
DEED_SIZES = {"take": 4, "add": 3, "tell": 3, "copy": 3, "ask": 3, "get": 3}


def show_face(face):
    """The text that writes a face."""
    lines = [f"face {face.name} {face.edition}"]
    for name, options in face.choices:
        lines.append(f"choice {name}")
        lines.extend([f" {number} {word}" for number, word in options])
    for name, fields in face.records:
        lines.append(f"record {name}")
        lines.extend([f" {number} {field} {show_kind(kind)} {need}" for number, field, kind, need in fields])
    for number, name, ask, answer, deeds in face.calls:
        lines.append(f"call {number} {name} {ask} {answer}")
        lines.extend([" " + " ".join(deed) for deed in deeds])
    return "\n".join(lines)


def show_kind(kind):
    """The words of a kind; the name in a kind is a text, too, and stands for itself."""
    if isinstance(kind, str):
        return kind
    return f"{kind[0]} {show_kind(kind[1])}"


def read_face(text):
    """The face that a text writes; NoFace, of any thing that writes none."""
    demand(isinstance(text, str), "a face is read from a text")
    blocks = split_blocks(text)
    name, edition = read_head(blocks[0])
    parts = blocks[1:]
    demand(is_ordered([words[0] for words, rows in parts]), "choices come first, then records, then calls")
    choices = tuple([read_choice(words, rows) for words, rows in parts if words[0] == "choice"])
    records = tuple([read_record(words, rows) for words, rows in parts if words[0] == "record"])
    calls = tuple([read_call(words, rows) for words, rows in parts if words[0] == "call"])
    check_names([choice[0] for choice in choices], [record[0] for record in records])
    check_calls(calls)
    return Face(name, edition, choices=choices, records=records, calls=calls)


def demand(holds, why):
    """Refuse the text where something that it must have doesn't hold."""
    if not holds:
        raise NoFace(why)


def split_blocks(text):
    """A text's lines without a blank ahead, each as words, with the rows of words below it.

    Words are split at every single blank: a blank too many makes an empty word, which is no name,
    no number and no word of a face, so it is refused wherever it stands.
    """
    blocks = []
    for line in text.split("\n"):
        if line.startswith(" "):
            demand(blocks, "a text begins with its face")
            blocks[-1][1].append(line[1:].split(" "))
        else:
            blocks.append((line.split(" "), []))
    return blocks


def is_ordered(words):
    """Whether lines that begin with these words are choices, then records, then calls, and no others."""
    in_order = []
    for word in ("choice", "record", "call"):
        in_order.extend([word] * words.count(word))
    return words == in_order


def read_head(block):
    """Name and edition of the face, from its first line."""
    words, rows = block
    demand(len(words) == 3 and words[0] == "face", "the first line is face NAME EDITION")
    demand(not rows, "nothing stands below the first line")
    return read_name(words[1]), read_number(words[2], GREATEST_EDITION)


def read_name(word):
    """The name that a word is."""
    demand(is_name(word), "a name has one to eight letters a to z")
    return word


def read_number(word, greatest):
    """The number, from 1 on, that a word writes."""
    demand(is_number_text(word), "a number has figures, no nought ahead")
    number = int(word)
    demand(1 <= number <= greatest, "a number is within its bounds")
    return number


def read_choice(words, rows):
    """A choice, from its line and those of its options."""
    demand(len(words) == 2, "a choice has a name")
    demand(1 <= len(rows) <= MOST_OPTIONS, "a choice has one to six options")
    options = tuple([read_option(row) for row in rows])
    demand(is_rising([number for number, word in options]), "numbers of options rise")
    demand(are_unlike([word for number, word in options]), "words of options are unlike")
    return read_name(words[1]), options


def read_option(words):
    """An option, from the words of its line."""
    demand(len(words) == 2, "an option has a number and a word")
    return read_number(words[0], GREATEST_NUMBER), read_name(words[1])


def read_record(words, rows):
    """A record, from its line and those of its fields."""
    demand(len(words) == 2, "a record has a name")
    demand(len(rows) <= MOST_FIELDS, "a record has at most five fields")
    fields = tuple([read_field(row) for row in rows])
    demand(is_rising([field[0] for field in fields]), "numbers of fields rise")
    demand(are_unlike([field[1] for field in fields]), "names of fields are unlike")
    return read_name(words[1]), fields


def read_field(words):
    """A field, from the words of its line."""
    demand(len(words) >= 4, "a field has a number, a name, a kind and a need")
    demand(words[-1] in NEEDS, "a field is must or may")
    return read_number(words[0], GREATEST_NUMBER), read_name(words[1]), read_kind(words[2:-1]), words[-1]


def read_kind(words):
    """The kind that words write."""
    if words[0] == "list":
        return "list", read_single_kind(words[1:])
    return read_single_kind(words)


def read_single_kind(words):
    """The kind that words write, where it is no list."""
    if len(words) == 2 and words[0] in NAMED_WORDS:
        return words[0], read_name(words[1])
    demand(len(words) == 1 and words[0] in PLAIN_WORDS, "a kind is one of those told")
    return words[0]


def read_call(words, rows):
    """A call, from its line and those of its deeds."""
    demand(len(words) == 5, "a call has a number, a name, an ask and an answer")
    demand(len(rows) <= MOST_DEEDS, "a call has at most six deeds")
    number = read_number(words[1], GREATEST_NUMBER)
    name, ask, answer = [read_name(word) for word in words[2:]]
    return number, name, ask, answer, tuple([read_deed(row) for row in rows])


def read_deed(words):
    """A deed, from the words of its line."""
    demand(DEED_SIZES.get(words[0]) == len(words), "a deed has its word and its names")
    return tuple([read_name(word) for word in words])


def check_names(choices, records):
    """Refuse choices and records, told by their names, that are too many, don't rise, or share one."""
    demand(len(choices) <= MOST_CHOICES, "a face has at most four choices")
    demand(len(records) <= MOST_RECORDS, "a face has at most six records")
    demand(is_rising(choices), "choices rise by their names")
    demand(is_rising(records), "records rise by their names")
    demand(are_unlike(choices + records), "no name is a choice's and a record's")


def check_calls(calls):
    """Refuse calls that are too many, don't rise by their numbers, or share a name."""
    demand(len(calls) <= MOST_CALLS, "a face has at most six calls")
    demand(is_rising([call[0] for call in calls]), "numbers of calls rise")
    demand(are_unlike([call[1] for call in calls]), "names of calls are unlike")
