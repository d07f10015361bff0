"""Faces, their texts, and any things, for the tests."""

from facehouse.faces import Face
from facehouse.facetexts import read_face

BANK_TEXT = """\
face bank 2
choice coin
 1 gold
 4 tin
choice mood
 2 glad
record reply
 1 left whole may
 3 parts list choice coin must
record request
 1 who text must
 2 sum whole must
 7 like choice mood may
 9 sub record reply may
 30 old list record reply may
record trunk
call 1 draw request reply
 take who sum poor
 tell left who
call 5 put request reply
 add who sum
 ask post send
 get left sum
 copy parts old
call 30 rest trunk trunk"""

BANK_CHOICES = (
    ("coin", ((1, "gold"), (4, "tin"))),
    ("mood", ((2, "glad"),)),
)
REPLY_FIELDS = (
    (1, "left", "whole", "may"),
    (3, "parts", ("list", ("choice", "coin")), "must"),
)
REQUEST_FIELDS = (
    (1, "who", "text", "must"),
    (2, "sum", "whole", "must"),
    (7, "like", ("choice", "mood"), "may"),
    (9, "sub", ("record", "reply"), "may"),
    (30, "old", ("list", ("record", "reply")), "may"),
)
BANK_RECORDS = (("reply", REPLY_FIELDS), ("request", REQUEST_FIELDS), ("trunk", ()))
DRAW = (1, "draw", "request", "reply", (("take", "who", "sum", "poor"), ("tell", "left", "who")))
PUT = (
    5,
    "put",
    "request",
    "reply",
    (("add", "who", "sum"), ("ask", "post", "send"), ("get", "left", "sum"), ("copy", "parts", "old")),
)
REST = (30, "rest", "trunk", "trunk", ())
BANK_CALLS = (DRAW, PUT, REST)


def bank():
    """A face with something of every sort in it, made anew."""
    return Face("bank", 2, choices=BANK_CHOICES, records=BANK_RECORDS, calls=BANK_CALLS)


def nested(depth):
    """Lists, tuples and dicts within one another."""
    thing = 0
    for level in range(depth):
        thing = [[thing], (thing,), {"in": thing}][level % 3]
    return thing


def any_things():
    """Things that are no texts and no whole numbers, made anew."""
    return [
        None,
        True,
        False,
        b"bank",
        (),
        ("coin",),
        ("reply",),
        ("draw",),
        (1,),
        [],
        ["coin"],
        ["reply"],
        ["draw"],
        [1],
        {},
        {"coin": 1},
        {"reply": [1, (2, None)]},
        tuple(range(10000)),
        nested(6),
        nested(100),
        bank(),
    ]


def face_of(*rows, name="a"):
    """The face NAME 1 with these lines below its first one."""
    return read_face("\n".join((f"face {name} 1",) + rows))
