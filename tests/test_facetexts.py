"""Points 4 and 6: how a face is written, and that just this is read."""

import unittest

from facehouse.errors import NoFace
from facehouse.faces import Face
from facehouse.facetexts import read_face, show_face
from tests.samples import BANK_TEXT, any_things, bank

# As much of everything as point 4 lets, every sort of kind and of deed, words of the language as names.
FULL_LINES = (
    "face zzzzzzzz 99",
    "choice aaaaaaaa",
    " 1 a",
    " 2 b",
    " 3 choice",
    " 28 whole",
    " 29 list",
    " 30 abcdefgh",
    "choice b",
    " 30 a",
    "choice choice",
    " 5 only",
    "choice list",
    " 1 list",
    "record a",
    "record call",
    " 1 a whole must",
    " 2 b truth must",
    " 3 c text must",
    " 4 must choice choice must",
    " 5 may record record may",
    "record m",
    " 10 a list whole may",
    " 11 b list truth may",
    " 12 c list text may",
    " 29 d list choice list may",
    " 30 e list record zzzzzzzz may",
    "record must",
    " 30 f whole may",
    "record record",
    " 1 list list record list must",
    "record zzzzzzzz",
    " 7 nobodys choice nobody may",
    "call 1 take a call",
    " take f g word",
    " add f g",
    " tell h f",
    " copy h f",
    " ask face call",
    " get h g",
    "call 2 add a a",
    "call 3 b call m",
    " get get get",
    "call 4 c nobody noone",
    "call 29 d record must",
    " take take take take",
    " ask ask ask",
    "call 30 abcdefgh zzzzzzzz zzzzzzzz",
    " add abcdefgh abcdefgh",
    " add abcdefgh abcdefgh",
)
FULL_TEXT = "\n".join(FULL_LINES)


def full():
    """The face that FULL_LINES write."""
    options = ((1, "a"), (2, "b"), (3, "choice"), (28, "whole"), (29, "list"), (30, "abcdefgh"))
    choices = (
        ("aaaaaaaa", options),
        ("b", ((30, "a"),)),
        ("choice", ((5, "only"),)),
        ("list", ((1, "list"),)),
    )
    call_fields = (
        (1, "a", "whole", "must"),
        (2, "b", "truth", "must"),
        (3, "c", "text", "must"),
        (4, "must", ("choice", "choice"), "must"),
        (5, "may", ("record", "record"), "may"),
    )
    list_fields = (
        (10, "a", ("list", "whole"), "may"),
        (11, "b", ("list", "truth"), "may"),
        (12, "c", ("list", "text"), "may"),
        (29, "d", ("list", ("choice", "list")), "may"),
        (30, "e", ("list", ("record", "zzzzzzzz")), "may"),
    )
    records = (
        ("a", ()),
        ("call", call_fields),
        ("m", list_fields),
        ("must", ((30, "f", "whole", "may"),)),
        ("record", ((1, "list", ("list", ("record", "list")), "must"),)),
        ("zzzzzzzz", ((7, "nobodys", ("choice", "nobody"), "may"),)),
    )
    deeds = (
        ("take", "f", "g", "word"),
        ("add", "f", "g"),
        ("tell", "h", "f"),
        ("copy", "h", "f"),
        ("ask", "face", "call"),
        ("get", "h", "g"),
    )
    long = ("add", "abcdefgh", "abcdefgh")
    calls = (
        (1, "take", "a", "call", deeds),
        (2, "add", "a", "a", ()),
        (3, "b", "call", "m", (("get", "get", "get"),)),
        (4, "c", "nobody", "noone", ()),
        (29, "d", "record", "must", (("take", "take", "take", "take"), ("ask", "ask", "ask"))),
        (30, "abcdefgh", "zzzzzzzz", "zzzzzzzz", (long, long)),
    )
    return Face("zzzzzzzz", 99, choices=choices, records=records, calls=calls)


# Where a name may stand; whatever name stands there, the rest is a face with it.
NAME_PLACES = (
    "face {} 1",
    "face a 1\nchoice {}\n 1 w",
    "face a 1\nchoice c\n 1 {}",
    "face a 1\nrecord {}",
    "face a 1\nrecord r\n 1 {} whole must",
    "face a 1\nrecord r\n 1 f choice {} must",
    "face a 1\nrecord r\n 1 f record {} may",
    "face a 1\nrecord r\n 1 f list choice {} must",
    "face a 1\nrecord r\n 1 f list record {} may",
    "face a 1\ncall 1 {} r r",
    "face a 1\ncall 1 c {} r",
    "face a 1\ncall 1 c r {}",
    "face a 1\ncall 1 c r r\n take {} g w",
    "face a 1\ncall 1 c r r\n take f {} w",
    "face a 1\ncall 1 c r r\n take f g {}",
    "face a 1\ncall 1 c r r\n add {} g",
    "face a 1\ncall 1 c r r\n add f {}",
    "face a 1\ncall 1 c r r\n tell {} f",
    "face a 1\ncall 1 c r r\n tell h {}",
    "face a 1\ncall 1 c r r\n copy {} f",
    "face a 1\ncall 1 c r r\n copy h {}",
    "face a 1\ncall 1 c r r\n ask {} c",
    "face a 1\ncall 1 c r r\n ask f {}",
    "face a 1\ncall 1 c r r\n get {} g",
    "face a 1\ncall 1 c r r\n get h {}",
)
NO_NAMES = (
    "", "abcdefghi", "A", "aB", "a1", "1", "a_", "a-b", "a.b", "\u00e9", "a\u0301", "\u0430", "~", "`", "{", "a\tb",
)
# Names that are words of the language, too, take nothing from their meaning at another place.
NAMES = ("a", "z", "abcdefgh", "zzzzzzzz", "face", "choice", "record", "call", "list", "whole", "must", "take")

# Where a number may stand, and the greatest that may stand there.
NUMBER_PLACES = (
    ("face a {}", 99),
    ("face a 1\nchoice c\n {} w", 30),
    ("face a 1\nrecord r\n {} f whole must", 30),
    ("face a 1\ncall {} c r r", 30),
)
NO_NUMBERS = (
    "", "0", "00", "01", "001", "-1", "+1", "1.0", "1_0", "0x1", "a", "1a", "\u00b2", "\u0661", "1e1", "9" * 5000,
)


def lines(*rows):
    """A text of a face a 1 with these lines below."""
    return "\n".join(("face a 1",) + rows)


class TextTest(unittest.TestCase):
    def read_as_written(self, text):
        face = read_face(text)
        self.assertIs(type(face), Face)
        self.assertEqual(show_face(face), text)
        return face

    def refused(self, thing):
        with self.assertRaises(NoFace) as caught:
            read_face(thing)
        self.assertIs(type(caught.exception), NoFace)


class WrittenTest(TextTest):
    def test_bank(self):
        self.assertEqual(show_face(bank()), BANK_TEXT)
        self.assertEqual(read_face(BANK_TEXT), bank())

    def test_all_that_may_be_in_a_face(self):
        self.assertEqual(show_face(full()).split("\n"), list(FULL_LINES))
        self.assertEqual(read_face(FULL_TEXT), full())
        self.assertEqual(read_face(show_face(full())), full())

    def test_arguments_by_name(self):
        self.assertEqual(show_face(face=full()), FULL_TEXT)
        self.assertEqual(read_face(text=FULL_TEXT), full())

    def test_name_and_edition_alone(self):
        self.assertEqual(show_face(Face("a", 1)), "face a 1")
        self.assertEqual(read_face("face a 1"), Face("a", 1))
        self.assertEqual(show_face(Face("abcdefgh", 99)), "face abcdefgh 99")
        self.assertEqual(read_face("face abcdefgh 99"), Face("abcdefgh", 99))

    def test_read_parts_are_of_the_kinds_told(self):
        # repr tells a tuple from a list, and a number from a truth or a text, at every depth.
        for made in (full(), bank(), Face("a", 1)):
            read = read_face(show_face(made))
            for part in ("name", "edition", "choices", "records", "calls"):
                self.assertEqual(repr(getattr(read, part)), repr(getattr(made, part)))

    def test_parts_without_the_others(self):
        self.assertEqual(read_face(lines("choice c", " 1 w")), Face("a", 1, choices=(("c", ((1, "w"),)),)))
        self.assertEqual(read_face(lines("record r")), Face("a", 1, records=(("r", ()),)))
        self.assertEqual(read_face(lines("call 1 c r s")), Face("a", 1, calls=((1, "c", "r", "s", ()),)))

    def test_showing_changes_nothing(self):
        face = full()
        show_face(face)
        self.assertEqual(face, full())
        self.assertEqual(show_face(face), FULL_TEXT)


class BoundsTest(TextTest):
    def test_names(self):
        for place in NAME_PLACES:
            for name in NAMES:
                with self.subTest(place=place, name=name):
                    self.read_as_written(place.replace("{}", name))

    def test_no_names(self):
        for place in NAME_PLACES:
            for name in NO_NAMES:
                with self.subTest(place=place, name=name):
                    self.refused(place.replace("{}", name))

    def test_numbers(self):
        for place, greatest in NUMBER_PLACES:
            for number in (1, 9, 10, greatest - 1, greatest):
                with self.subTest(place=place, number=number):
                    self.read_as_written(place.replace("{}", str(number)))

    def test_no_numbers(self):
        for place, greatest in NUMBER_PLACES:
            for word in NO_NUMBERS + (str(greatest + 1), str(greatest * 10), "0" + str(greatest)):
                with self.subTest(place=place, word=word[:40]):
                    self.refused(place.replace("{}", word))

    def test_counts(self):
        options = [f" {n} {w}" for n, w in zip(range(1, 8), "abcdefg")]
        fields = [f" {n} {w} whole must" for n, w in zip(range(1, 8), "abcdefg")]
        calls = [f"call {n} {w} r r" for n, w in zip(range(1, 8), "abcdefg")]
        choices = [f"choice {w}\n 1 w" for w in "abcdefg"]
        records = [f"record {w}" for w in "abcdefg"]
        deeds = [" add f g"] * 7
        bounds = (
            ((), choices, 0, 4),
            (("choice c",), options, 1, 6),
            ((), records, 0, 6),
            (("record r",), fields, 0, 5),
            ((), calls, 0, 6),
            (("call 1 c r r",), deeds, 0, 6),
        )
        for head, rows, least, most in bounds:
            for many in range(8):
                text = lines(*head, *rows[:many])
                with self.subTest(text):
                    if least <= many <= most:
                        self.read_as_written(text)
                    else:
                        self.refused(text)

    def test_every_choice_record_and_call_has_its_bounds(self):
        # The part in the middle and the last one are looked at, too, not the first alone.
        one_more = ["choice a", " 1 a", "choice b"] + [f" {n} {w}" for n, w in zip(range(1, 8), "abcdefg")]
        self.refused(lines(*one_more, "choice c", " 1 a"))
        self.refused(lines("choice a", " 1 a", "choice b", "choice c", " 1 a"))
        self.refused(lines("record a", "record b", *[f" {n} {w} text may" for n, w in zip(range(1, 7), "abcdef")]))
        self.refused(lines("call 1 a r r", "call 2 b r r", *[" add f g"] * 7, "call 3 c r r"))

    def test_numbers_rise(self):
        for low, high in ((1, 2), (1, 30), (9, 10), (2, 3)):
            for form in (
                ("choice c", " {} v", " {} w"),
                ("record r", " {} f whole must", " {} g whole must"),
                ("call {} c r r", "call {} d r r"),
                ("call {} c r r", " add f g", "call {} d r r"),
            ):
                text = lines(*form)
                with self.subTest(text=text, low=low, high=high):
                    self.read_as_written(text.format(low, high))
                    self.refused(text.format(high, low))
                    self.refused(text.format(low, low))
                    self.refused(text.format(high, high))

    def test_numbers_begin_anew_in_each_choice_and_record(self):
        self.read_as_written(lines("choice c", " 5 w", "choice d", " 1 w"))
        self.read_as_written(lines("record r", " 4 f text may", "record s", " 4 f text may"))
        self.read_as_written(lines("record r", " 4 f text may", "record s", " 1 f text may"))

    def test_words_of_one_choice_are_unlike(self):
        self.refused(lines("choice c", " 1 w", " 2 w"))
        self.refused(lines("choice c", " 1 w", " 2 v", " 3 w"))
        self.refused(lines("choice b", " 1 w", "choice c", " 1 w", " 2 v", " 3 w"))
        self.read_as_written(lines("choice c", " 1 w", " 2 v", "choice d", " 1 w", " 2 d"))

    def test_names_of_one_records_fields_are_unlike(self):
        self.refused(lines("record r", " 1 f whole must", " 2 f whole must"))
        self.refused(lines("record r", " 1 f whole must", " 2 g whole must", " 3 f text may"))
        self.read_as_written(lines("record r", " 1 f whole must", " 2 r text may", "record s", " 1 f whole must"))

    def test_names_of_calls_are_unlike(self):
        self.refused(lines("call 1 c r r", "call 2 c r r"))
        self.refused(lines("call 1 c r r", "call 2 d r r", "call 3 c s s"))
        self.read_as_written(lines("choice c", " 1 c", "record r", "call 1 c r r", "call 2 r r r"))

    def test_choices_and_records_rise_by_names(self):
        for low, high in (("a", "b"), ("a", "aa"), ("ab", "b"), ("yz", "z")):
            with self.subTest(low=low, high=high):
                self.read_as_written(lines(f"choice {low}", " 1 w", f"choice {high}", " 1 w"))
                self.refused(lines(f"choice {high}", " 1 w", f"choice {low}", " 1 w"))
                self.refused(lines(f"choice {low}", " 1 w", f"choice {low}", " 1 w"))
                self.read_as_written(lines(f"record {low}", f"record {high}"))
                self.refused(lines(f"record {high}", f"record {low}"))
                self.refused(lines(f"record {low}", f"record {low}"))
                self.read_as_written(lines(f"choice {high}", " 1 w", f"record {low}"))

    def test_no_name_is_a_choices_and_a_records(self):
        self.refused(lines("choice c", " 1 w", "record c"))
        self.refused(lines("choice a", " 1 w", "choice z", " 1 w", "record b", "record z"))
        self.refused(lines("choice a", " 1 w", "choice z", " 1 w", "record a", "record b"))

    def test_kinds(self):
        plain = ("whole", "truth", "text", "choice c", "record r")
        for kind in plain + tuple([f"list {one}" for one in plain]):
            for need in ("must", "may"):
                with self.subTest(kind=kind, need=need):
                    self.read_as_written(lines("record r", f" 1 f {kind} {need}"))

    def test_no_kinds(self):
        for kind in (
            "", "list", "choice", "record", "int", "bool", "wholes", "Whole", "take", "must",
            "whole whole", "text c", "truth r", "choice c c", "record r r", "choice choice c", "list c",
            "list whole whole", "list list", "list list whole", "list list choice c", "list list list text",
            "list choice", "list record", "list choice c c", "list int", "choice list whole", "record list text",
        ):
            for need in ("must", "may"):
                with self.subTest(kind=kind, need=need):
                    self.refused(lines("record r", f" 1 f {kind} {need}"))

    def test_no_fields(self):
        for row in (
            " 1", " 1 f", " 1 f whole", " 1 f must", " f whole must", " 1 whole must", " f 1 whole must", " must",
            " 1 f whole need", " 1 f whole Must", " 1 f whole must may", " 1 f whole must must", " 1 f whole must.",
            " 1 1 f whole must",
        ):
            with self.subTest(row):
                self.refused(lines("record r", row))

    def test_no_options(self):
        for row in (" 1", " w", " w 1", " 1 w w", " 1 1", " 1 2 w", " 1 w must"):
            with self.subTest(row):
                self.refused(lines("choice c", row))

    def test_no_deeds(self):
        words = {"take": 3, "add": 2, "tell": 2, "copy": 2, "ask": 2, "get": 2}
        for word, right in words.items():
            for many in range(6):
                text = lines("call 1 c r r", " " + " ".join([word] + ["x"] * many))
                with self.subTest(text):
                    if many == right:
                        self.read_as_written(text)
                    else:
                        self.refused(text)
        for row in (" give f g", " Take f g w", " takes f g w", " f g", " f take g w", " 1 add f g", " tell h 1"):
            with self.subTest(row):
                self.refused(lines("call 1 c r r", row))

    def test_no_calls(self):
        for words in ("", " 1", " 1 c", " 1 c r", " 1 c r r r", " c 1 r r", " c r r", " 1 1 r r"):
            with self.subTest(words):
                self.refused(lines("call" + words))

    def test_what_is_named_need_not_be_there(self):
        self.read_as_written(lines("record r", " 1 f choice nobody must", " 2 g record noone may"))
        self.read_as_written(lines("call 1 c nobody noone", " get f g"))


class FormTest(TextTest):
    def test_two_blanks_together(self):
        for at, sign in enumerate(BANK_TEXT):
            if sign == " ":
                with self.subTest(at):
                    self.refused(BANK_TEXT[:at] + " " + BANK_TEXT[at:])

    def test_a_blank_at_a_lines_end(self):
        rows = BANK_TEXT.split("\n")
        for at, row in enumerate(rows):
            with self.subTest(row):
                self.refused("\n".join(rows[:at] + [row + " "] + rows[at + 1:]))

    def test_a_blank_more_or_less_ahead(self):
        rows = BANK_TEXT.split("\n")
        for at, row in enumerate(rows):
            with self.subTest(row):
                self.refused("\n".join(rows[:at] + [" " + row] + rows[at + 1:]))
                if row.startswith(" "):
                    self.refused("\n".join(rows[:at] + [row[1:]] + rows[at + 1:]))

    def test_a_tab_or_another_sign_for_a_blank(self):
        for at, sign in enumerate(BANK_TEXT):
            if sign == " ":
                for other in ("\t", "\u00a0", "\r", "\x0b", "\x0c", "_", ","):
                    text = BANK_TEXT[:at] + other + BANK_TEXT[at + 1:]
                    with self.subTest(at=at, other=other):
                        self.refused(text)

    def test_a_tab_ahead_or_behind(self):
        rows = BANK_TEXT.split("\n")
        for at, row in enumerate(rows):
            with self.subTest(row):
                self.refused("\n".join(rows[:at] + ["\t" + row] + rows[at + 1:]))
                self.refused("\n".join(rows[:at] + [row + "\t"] + rows[at + 1:]))

    def test_a_line_of_none_or_of_one_blank(self):
        rows = BANK_TEXT.split("\n")
        for at in range(len(rows) + 1):
            for row in ("", " ", "  ", "\t"):
                with self.subTest(at=at, row=row):
                    self.refused("\n".join(rows[:at] + [row] + rows[at:]))

    def test_other_line_ends(self):
        for end in ("\r\n", "\r", "\x0b", "\x0c", "\x1c", "\u2028", "\n\n", " ", "\n\r"):
            with self.subTest(end):
                self.refused(BANK_TEXT.replace("\n", end))
                self.refused(BANK_TEXT.replace("\n", end, 1))

    def test_a_line_end_at_the_end_or_ahead(self):
        for text in ("face a 1", BANK_TEXT, FULL_TEXT):
            for end in ("\n", "\n\n", "\r\n", "\n ", " \n"):
                with self.subTest(text=text[:20], end=end):
                    self.refused(text + end)
                    self.refused(end + text)

    def test_texts_of_almost_nothing(self):
        for text in ("", " ", "\n", " \n", "\n ", "a"):
            with self.subTest(text):
                self.refused(text)

    def test_first_line(self):
        for text in (
            "face", "face ", "face a", "face 1", "face 1 a", "face a 1 1", "face a a", "Face a 1", "faces a 1", "a 1",
            " face a 1", "choice a\n 1 w", "record a", "record a 1", "call 1 a r r",
        ):
            with self.subTest(text):
                self.refused(text)
        self.refused("face a 1\nface a 1")
        self.refused("face a 1\nface b 1\nrecord r")
        self.refused("record r\nface a 1")

    def test_rows_below_the_first_line(self):
        for row in (" 1 w", " 1 f whole must", " add f g", " a"):
            with self.subTest(row):
                self.refused(lines(row))

    def test_rows_below_another_line_than_theirs(self):
        self.refused(lines("choice c", " 1 w", " 2 f whole must"))
        self.refused(lines("choice c", " 1 w", " add f g"))
        self.refused(lines("record r", " 1 w"))
        self.refused(lines("record r", " add f g"))
        self.refused(lines("call 1 c r r", " 1 w"))
        self.refused(lines("call 1 c r r", " 1 f whole must"))

    def test_choices_then_records_then_calls(self):
        choice, record, call = ("choice c", " 1 w"), ("record r",), ("call 1 c r r",)
        self.read_as_written(lines(*choice, *record, *call))
        for parts in (
            (choice, call, record),
            (record, choice, call),
            (record, call, choice),
            (call, choice, record),
            (call, record, choice),
            (choice, record, ("choice d", " 1 w")),
            (record, call, ("record s",)),
            (choice, call, ("choice d", " 1 w")),
        ):
            text = lines(*[row for part in parts for row in part])
            with self.subTest(text):
                self.refused(text)

    def test_lines_of_other_words(self):
        for row in (
            "choices c", "Choice c", "records r", "Record r", "calls 1 c r r", "Call 1 c r r", "field f", "#", "1 w",
        ):
            with self.subTest(row):
                self.refused(lines(row))
                self.refused(lines("choice c", " 1 w", row))
                self.refused(lines("record r", row))

    def test_words_too_many_or_too_few(self):
        for row in ("choice", "choice c c", "choice 1", "choice c 1"):
            self.refused(lines(row, " 1 w"))
        for row in ("record", "record r r", "record 1", "record r 1"):
            self.refused(lines(row))
            self.refused(lines(row, " 1 f whole must"))

    def test_great_letters(self):
        for at, sign in enumerate(BANK_TEXT):
            if sign.isalpha():
                with self.subTest(at):
                    self.refused(BANK_TEXT[:at] + sign.upper() + BANK_TEXT[at + 1:])

    def test_read_is_just_what_is_so_written(self):
        # One sign left out, put in or put otherwise anywhere: no face, or the one that is written so.
        read = 0
        for at in range(len(BANK_TEXT) + 1):
            texts = [BANK_TEXT[:at] + BANK_TEXT[at + 1:]]
            for sign in " \n\t0159aztA-_:`\u00e9\u0663":
                texts.append(BANK_TEXT[:at] + sign + BANK_TEXT[at:])
                texts.append(BANK_TEXT[:at] + sign + BANK_TEXT[at + 1:])
            for text in texts:
                try:
                    face = read_face(text)
                except NoFace:
                    continue
                read += 1
                self.assertEqual(show_face(face), text)
                self.assertIs(face == bank(), text == BANK_TEXT)
        self.assertGreater(read, 100)


class AnyThingTest(TextTest):
    def test_things_that_are_no_texts(self):
        bytes_text = BANK_TEXT.encode()
        rows = BANK_TEXT.split("\n")
        more = [bytes_text, rows, tuple(rows), {"face": BANK_TEXT}, {BANK_TEXT: 1}, ["face", "a", 1], Face("a", 1)]
        for thing in any_things() + more + [0, 1, -1, 10**29]:
            with self.subTest(str(thing)[:40]):
                shown = repr(thing)
                self.refused(thing)
                self.assertEqual(repr(thing), shown)

    def test_texts_of_any_signs(self):
        signs = "".join([chr(code) for code in range(32, 127) if chr(code) != "%"])
        texts = (signs, signs * 4, "face a 1" + signs, "face a 1\n" + signs, "face " * 80)
        for text in texts + (" " * 400, "\n" * 400, "a" * 400):
            with self.subTest(text[:40]):
                self.refused(text)

    def test_a_refused_text_changes_no_later_answer(self):
        self.refused(BANK_TEXT + "\n")
        self.assertEqual(read_face(BANK_TEXT), bank())
        self.refused(FULL_TEXT + " ")
        self.assertEqual(read_face(FULL_TEXT), full())


if __name__ == "__main__":
    unittest.main()
