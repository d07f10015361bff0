"""Points 2, 10 and 11: values as bodies, number by number, and that just these are read."""

import copy
import unittest

from facehouse.errors import NoBody
from facehouse.faces import Face
from facehouse.values import is_value, least
from facehouse.wire import read, written
from tests.reference import Refused, body_of, dice_of, some_value, value_of
from tests.samples import any_things, bank, face_of, nested

SIGNS = "".join([chr(code) for code in range(32, 127) if code != 37])
BILLION = (59, 154, 202, 0)
# An inner record whose content can be made of any size up to 650 numbers.
LONG = (
    "record holder", " 5 it record long may", " 6 them list record long may",
    "record long", *[f" {n} {f} list text may" for n, f in enumerate("abcde", 1)],
)
RING = ("record r", " 1 next record r may", " 2 rest list record r may", " 3 word text may", " 4 words list text may")


def of_kind(kind, need="must"):
    """A face whose record r has one field x, of the number 7, of a kind."""
    choices = ("choice c", " 1 gold", " 4 tin", "choice d", " 30 lead")
    return face_of(*choices, "record e", "record m", " 2 y whole must", "record r", f" 7 x {kind} {need}")


def long_value(size):
    """A value of the record long of LONG whose content has this size (from 2 on, but few)."""
    value = {}
    for name in "abcde":
        if size == 0:
            break
        # Each field has four numbers, and for each text its signs and one more; what is left suffices for one.
        part = size if size <= 130 else min(130, size - 4)
        whole, rest = divmod(part - 4, 21)
        value[name] = ("x" * 20,) * whole + (("x" * (rest - 1),) if rest else ())
        size -= part
    return value


def told_size(size):
    return (size,) if size < 200 else (200 + size // 256, size % 256)


def nested_body(depth, end=()):
    """The body of a record of RING that holds others by next, depth in all; end is the innermost one's."""
    body = tuple(end)
    for _ in range(depth - 1):
        body = (1, 4) + told_size(len(body)) + body
    return body


class WireTest(unittest.TestCase):
    def same(self, face, record, value, body):
        """The value is written as this body, and this read as the very value."""
        shown = repr(value)
        found = written(face, record, value)
        self.assertEqual(found, body)
        self.assertIs(type(found), tuple)
        self.assertEqual({type(one) for one in found} - {int}, set())
        self.assertEqual(repr(value), shown)
        self.reads(face, record, body, value)

    def reads(self, face, record, body, value):
        found = read(face, record, body)
        self.assertEqual(found, value)
        self.assertEqual(exact(found), exact(value))

    def refused(self, face, record, body):
        shown = repr(body)
        with self.assertRaises(NoBody) as caught:
            read(face, record, body)
        self.assertIs(type(caught.exception), NoBody)
        self.assertEqual(repr(body), shown)


def exact(thing):
    """A thing with all its kinds told, so that True isn't 1 and a list no tuple; the order of keys is nothing."""
    if isinstance(thing, dict):
        return "dict", sorted((key, exact(thing[key])) for key in thing)
    if isinstance(thing, tuple):
        return "tuple", [exact(one) for one in thing]
    return type(thing).__name__, thing


class NumbersTest(WireTest):
    def test_whole(self):
        for number, content in (
            (0, ()), (1, (1,)), (2, (2,)), (199, (199,)), (200, (200,)), (255, (255,)), (256, (1, 0)), (257, (1, 1)),
            (511, (1, 255)), (512, (2, 0)), (65535, (255, 255)), (65536, (1, 0, 0)), (2**24 - 1, (255, 255, 255)),
            (2**24, (1, 0, 0, 0)), (10**9 - 1, (59, 154, 201, 255)), (10**9, BILLION),
        ):
            with self.subTest(number):
                self.same(of_kind("whole"), "r", {"x": number}, (7, 1, len(content)) + content)
                self.same(of_kind("list whole"), "r", {"x": (number,)}, (7, 3, 2 + len(content), 1, len(content)) + content)

    def test_above_what_a_whole_can_be(self):
        for content in ((59, 154, 202, 1), (59, 154, 203, 0), (59, 155, 0, 0), (60, 0, 0, 0), (255,) * 4, (1, 0, 0, 0, 0),
                        (1,) * 5, (1,) + (0,) * 100):
            with self.subTest(content):
                for kind in ("whole", "truth", "choice c"):
                    self.refused(of_kind(kind), "r", (7, 1, len(content)) + content)
                    listed = (1, len(content)) + content
                    self.refused(of_kind(f"list {kind}"), "r", (7, 3, len(listed)) + listed)

    def test_very_long_numbers(self):
        for size in (200, 5000, 14335):
            self.refused(of_kind("whole"), "r", (7, 1) + told_size(size) + (255,) * size)
            self.refused(of_kind("whole"), "r", (7, 1) + told_size(size) + (0,) * size)

    def test_a_nought_ahead(self):
        for content in ((0,), (0, 0), (0, 1), (0, 4), (0, 255), (0, 1, 0), (0, 0, 0, 0), (0,) + BILLION):
            for kind in ("whole", "truth", "choice c", "choice d"):
                with self.subTest(kind=kind, content=content):
                    self.refused(of_kind(kind), "r", (7, 1, len(content)) + content)
                    listed = (1, len(content)) + content
                    self.refused(of_kind(f"list {kind}"), "r", (7, 3, len(listed)) + listed)

    def test_truth(self):
        self.same(of_kind("truth"), "r", {"x": False}, (7, 1, 0))
        self.same(of_kind("truth"), "r", {"x": True}, (7, 1, 1, 1))
        self.same(of_kind("list truth"), "r", {"x": (True, False, True)}, (7, 3, 6, 1, 1, 1, 0, 1, 1))
        for content in ((2,), (3,), (255,), (1, 0), (1, 1), BILLION):
            self.refused(of_kind("truth"), "r", (7, 1, len(content)) + content)

    def test_choice(self):
        self.same(of_kind("choice c"), "r", {"x": "gold"}, (7, 1, 1, 1))
        self.same(of_kind("choice c"), "r", {"x": "tin"}, (7, 1, 1, 4))
        self.same(of_kind("choice d"), "r", {"x": "lead"}, (7, 1, 1, 30))
        self.same(of_kind("list choice c"), "r", {"x": ("tin", "gold", "tin")}, (7, 3, 7, 1, 1, 4, 1, 1, 1, 4))
        for content in ((), (2,), (3,), (5,), (30,), (255,), (1, 0), (1, 1), (4, 4), BILLION):
            self.refused(of_kind("choice c"), "r", (7, 1, len(content)) + content)
        for content in ((), (1,), (4,), (29,), (31,)):
            self.refused(of_kind("choice d"), "r", (7, 1, len(content)) + content)

    def test_words_are_told_by_the_readers_names(self):
        other = face_of("choice z", " 1 tin", " 4 gold", "record q", " 7 y choice z must")
        self.reads(other, "q", written(of_kind("choice c"), "r", {"x": "gold"}), {"y": "tin"})


class TextsTest(WireTest):
    def test_signs(self):
        for sign in SIGNS:
            self.same(of_kind("text"), "r", {"x": sign}, (7, 2, 1, ord(sign)))
        for at in range(0, len(SIGNS), 20):
            text = SIGNS[at:at + 20]
            self.same(of_kind("text"), "r", {"x": text}, (7, 2, len(text)) + tuple(map(ord, text)))

    def test_codes_of_no_signs(self):
        for code in range(256):
            for content in ((code,), (65, code), (code, 65), (65,) * 19 + (code,)):
                body = (7, 2, len(content)) + content
                if 32 <= code <= 126 and code != 37:
                    self.reads(of_kind("text"), "r", body, {"x": "".join(map(chr, content))})
                else:
                    self.refused(of_kind("text"), "r", body)

    def test_sizes(self):
        for size in range(25):
            body = (7, 2, size) + (48,) * size
            if size <= 20:
                self.same(of_kind("text"), "r", {"x": "0" * size}, body)
            else:
                self.refused(of_kind("text"), "r", body)
        for size in (199, 200, 300):
            self.refused(of_kind("text"), "r", (7, 2) + told_size(size) + (65,) * size)

    def test_lists_of_texts(self):
        self.same(of_kind("list text"), "r", {"x": ()}, (7, 3, 1, 2))
        self.same(of_kind("list text"), "r", {"x": ("", "a", "bc")}, (7, 3, 7, 2, 0, 1, 97, 2, 98, 99))


class RecordsTest(WireTest):
    face = face_of(
        "choice coin", " 1 gold", " 4 tin",
        "record empty",
        "record inner", " 1 n whole must", " 2 t text may",
        "record outer", " 1 a whole must", " 2 b text may", " 3 c record inner must", " 9 d list record inner may",
        " 30 e choice coin must",
    )

    def test_a_record_without_fields(self):
        self.same(self.face, "empty", {}, ())
        self.same(of_kind("record e"), "r", {"x": {}}, (7, 4, 0))
        self.same(of_kind("list record e"), "r", {"x": ({}, {})}, (7, 3, 3, 4, 0, 0))
        self.same(of_kind("list record e"), "r", {"x": ()}, (7, 3, 1, 4))

    def test_field_by_field(self):
        least_body = (1, 1, 0, 3, 4, 3, 1, 1, 0, 30, 1, 1, 1)
        self.same(self.face, "outer", {"a": 0, "c": {"n": 0}, "e": "gold"}, least_body)
        value = {"e": "tin", "d": ({"n": 256}, {"t": "z", "n": 4}), "c": {"t": "", "n": 2}, "b": "hi", "a": 10**9}
        body = (
            (1, 1, 4) + BILLION + (2, 2, 2, 104, 105) + (3, 4, 7, 1, 1, 1, 2, 2, 2, 0)
            + (9, 3, 16, 4, 5, 1, 1, 2, 1, 0, 8, 1, 1, 1, 4, 2, 2, 1, 122) + (30, 1, 1, 4)
        )
        self.same(self.face, "outer", value, body)

    def test_lists_of_every_length(self):
        for kind, one, content in (("whole", 9, (9,)), ("truth", True, (1,)), ("text", "~", (126,)),
                                   ("choice c", "tin", (4,)), ("record m", {"y": 9}, (2, 1, 1, 9))):
            mark = {"text": 2, "record m": 4}.get(kind, 1)
            for many in range(9):
                listed = (mark,) + ((len(content),) + content) * many
                body = (7, 3, len(listed)) + listed
                with self.subTest(kind=kind, many=many):
                    if many <= 6:
                        self.same(of_kind(f"list {kind}"), "r", {"x": (one,) * many}, body)
                    else:
                        self.refused(of_kind(f"list {kind}"), "r", body)

    def test_a_lists_mark(self):
        for kind, mark in (("whole", 1), ("truth", 1), ("choice c", 1), ("text", 2), ("record e", 4)):
            for told in range(8):
                body = (7, 3, 1, told)
                with self.subTest(kind=kind, told=told):
                    if told == mark:
                        self.reads(of_kind(f"list {kind}"), "r", body, {"x": ()})
                    else:
                        self.refused(of_kind(f"list {kind}"), "r", body)
            self.refused(of_kind(f"list {kind}"), "r", (7, 3, 0))

    def test_a_bad_part_of_a_list(self):
        for at in range(6):
            parts = [(1, 65)] * at + [(1, 37)] + [(1, 65)] * (5 - at)
            listed = (2,) + sum(parts, ())
            self.refused(of_kind("list text"), "r", (7, 3, len(listed)) + listed)

    def test_marks_of_fields(self):
        for kind, mark, content in (("whole", 1, ()), ("truth", 1, ()), ("choice c", 1, (1,)), ("text", 2, ()),
                                    ("list whole", 3, (1,)), ("record e", 4, ())):
            for told in range(8):
                body = (7, told, len(content)) + content
                for need in ("must", "may"):
                    with self.subTest(kind=kind, told=told):
                        if told == mark:
                            self.assertEqual(written(of_kind(kind), "r", read(of_kind(kind, need), "r", body)), body)
                        else:
                            self.refused(of_kind(kind, need), "r", body)

    def test_a_must_field_missing(self):
        value = {"a": 0, "b": "b", "c": {"n": 0}, "d": ({"n": 0},), "e": "gold"}
        for name in value:
            part = {key: value[key] for key in value if key != name}
            body = written(self.face, "outer", part)
            if name in "bd":
                self.reads(self.face, "outer", body, part)
            else:
                self.refused(self.face, "outer", body)
        self.refused(self.face, "inner", ())
        self.refused(self.face, "outer", ())
        self.refused(self.face, "outer", written(self.face, "outer", {**value, "c": {"t": ""}}))
        self.refused(self.face, "outer", written(self.face, "outer", {**value, "d": ({"n": 0}, {"t": ""})}))

    def test_numbers_of_fields_rise(self):
        a, b, c = (1, 1, 0), (2, 2, 0), (3, 4, 3, 1, 1, 0)
        e = (30, 1, 1, 1)
        self.reads(self.face, "outer", a + b + c + e, {"a": 0, "b": "", "c": {"n": 0}, "e": "gold"})
        for parts in ((b, a, c, e), (a, c, b, e), (a, a, c, e), (a, b, b, c, e), (a, c, c, e), (a, c, e, e), (a, e, c),
                      (e, a, c), (c, a, e)):
            self.refused(self.face, "outer", sum(parts, ()))
        # Those that are passed over rise, too.
        for number in range(4, 30):
            if number != 9:
                strange = (number, 2, 1, 7)
                self.reads(self.face, "outer", a + c + strange + e, {"a": 0, "c": {"n": 0}, "e": "gold"})
                for parts in ((strange, a, c, e), (a, strange, c, e), (a, c, e, strange), (a, c, strange, strange, e)):
                    self.refused(self.face, "outer", sum(parts, ()))
        self.refused(self.face, "empty", (5, 1, 0, 4, 1, 0))
        self.refused(self.face, "empty", (5, 1, 0, 5, 1, 0))

    def test_numbers_and_marks_of_what_is_passed_over(self):
        for number in range(256):
            for mark in range(8):
                body = (number, mark, 1, 99)
                if 1 <= number <= 30 and 1 <= mark <= 4:
                    self.reads(self.face, "empty", body, {})
                else:
                    self.refused(self.face, "empty", body)

    def test_all_thirty_fields(self):
        body = sum([(number, 1 + number % 4, 0) for number in range(1, 31)], ())
        self.reads(self.face, "empty", body, {})
        self.refused(self.face, "empty", body + (31, 1, 0))

    def test_read_by_the_names_of_the_reader(self):
        writer = face_of("record one", " 1 a whole must", " 2 b record two may", "record two", " 1 c text must")
        reader = face_of("record x", " 1 z text must", "record y", " 1 a record x may", " 2 q record x may", name="b")
        body = written(writer, "one", {"a": 5, "b": {"c": "hi"}})
        self.refused(reader, "y", body)
        body = written(face_of("record one", " 2 b record two may", "record two", " 1 c text must"), "one", {"b": {"c": "hi"}})
        self.reads(reader, "y", body, {"q": {"z": "hi"}})

    def test_arguments_by_name(self):
        self.assertEqual(written(face=self.face, record="inner", value={"n": 3}), (1, 1, 1, 3))
        self.assertEqual(read(face=self.face, record="inner", body=(1, 1, 1, 3)), {"n": 3})
        self.assertEqual(read(body=(1, 1, 1, 3), record="inner", face=self.face), {"n": 3})


class PassedOverTest(WireTest):
    contents = [(), (0,), (1,), (255,), (0, 0, 0), (37,), (1, 1, 9), (31, 9, 255), (200,), (200, 5), (4,) * 199, (9,) * 200,
                (0,) * 255, (255,) * 256, (1,) * 511, (2,) * 512, (3,) * 9000, (255,) * 14335, nested_body(100)]

    def test_any_content(self):
        face = of_kind("text")
        for content in self.contents:
            for mark in (1, 2, 3, 4):
                strange = (mark,) + told_size(len(content)) + content
                with self.subTest(content=content[:9], size=len(content), mark=mark):
                    self.reads(face, "r", (6,) + strange + (7, 2, 1, 65), {"x": "A"})
                    self.reads(face, "r", (7, 2, 1, 65) + (8,) + strange, {"x": "A"})
                    self.refused(face, "r", (6,) + strange)

    def test_at_any_depth(self):
        face = face_of(*RING)
        for content in self.contents[:12]:
            strange = (9, 3) + told_size(len(content)) + content
            for depth in (1, 2, 40, 80):
                value = {"word": "x"}
                for _ in range(depth - 1):
                    value = {"next": value}
                self.reads(face, "r", nested_body(depth, (3, 2, 1, 120) + strange), value)

    def test_in_records_of_lists(self):
        strange = (5, 1, 2, 0, 0)
        inner = (3, 2, 1, 120) + strange
        listed = (4,) + (len(inner),) + inner + (0,) + (len(strange),) + strange
        body = (2, 3, len(listed)) + listed
        self.reads(face_of(*RING), "r", body, {"rest": ({"word": "x"}, {}, {})})

    def test_every_number_is_one_all_the_same(self):
        for bad in (256, -1, True, False, None, "a", (1,), 1.0, 10**29):
            self.refused(of_kind("text"), "r", (6, 1, 1, bad, 7, 2, 0))
            self.refused(of_kind("text"), "r", (7, 2, 0, 8, 4, 3, 1, bad, 2))

    def test_more_than_ten_thousand_numbers(self):
        body = (7, 2, 1, 65) + sum([(number, 2) + told_size(14335) + (0,) * 14335 for number in range(8, 31)], ())
        self.reads(of_kind("text"), "r", body, {"x": "A"})


class SizesTest(WireTest):
    sizes = (4, 100, 127, 128, 198, 199, 200, 201, 254, 255, 256, 257, 455, 456, 511, 512, 513, 640)

    def test_contents_of_these_sizes(self):
        face = face_of(*LONG)
        for size in self.sizes:
            value = long_value(size)
            content = body_of(face, "long", value)
            with self.subTest(size):
                self.assertEqual(len(content), size)
                told = {199: (199,), 200: (200, 200), 255: (200, 255), 256: (201, 0), 511: (201, 255), 512: (202, 0)}
                self.assertEqual(told_size(size), told.get(size, told_size(size)))
                self.same(face, "holder", {"it": value}, (5, 4) + told_size(size) + content)
                listed = (4,) + (told_size(size) + content) * 2
                self.same(face, "holder", {"them": (value,) * 2}, (6, 3) + told_size(len(listed)) + listed)

    def test_the_sizes_that_the_document_tells(self):
        for size, told in ((0, (0,)), (199, (199,)), (200, (200, 200)), (255, (200, 255)), (256, (201, 0)), (511, (201, 255)),
                           (512, (202, 0)), (10000, (239, 16)), (14335, (255, 255))):
            self.reads(Face("a", 1, records=(("r", ()),)), "r", (3, 2) + told + (7,) * size, {})

    def test_sizes_told_otherwise(self):
        empty = face_of("record r")
        for size in list(range(200)):
            self.refused(empty, "r", (3, 2, 200, size) + (7,) * size)
            self.reads(empty, "r", (3, 2, size) + (7,) * size, {})
        face = face_of(*LONG)
        content = body_of(face, "long", long_value(100))
        self.reads(face, "holder", (5, 4, 100) + content, {"it": long_value(100)})
        self.refused(face, "holder", (5, 4, 200, 100) + content)
        self.reads(face, "holder", (6, 3, 102, 4, 100) + content, {"them": (long_value(100),)})
        self.refused(face, "holder", (6, 3, 200, 102, 4, 100) + content)
        self.refused(face, "holder", (6, 3, 103, 4, 200, 100) + content)
        content = body_of(face, "long", long_value(300))
        for told in ((44,), (200, 44), (200, 255), (202, 44), (255, 44), (201, 43), (201, 45), (1, 44)):
            self.refused(face, "holder", (5, 4) + told + content)
        self.reads(face, "holder", (5, 4, 201, 44) + content, {"it": long_value(300)})

    def test_sizes_that_do_not_fit(self):
        for size in (1, 2, 3, 5, 198, 199, 200, 256):
            content = (65,) * size
            for told in (size - 1, size + 1, size + 100):
                self.refused(face_of("record r"), "r", (3, 2) + told_size(told) + content)
        # One number too many within an inner record or a list, although the outer sizes fit.
        self.refused(of_kind("record m"), "r", (7, 4, 4, 2, 1, 0, 9))
        self.refused(of_kind("record m"), "r", (7, 4, 4, 2, 1, 2, 9))
        self.refused(of_kind("list text"), "r", (7, 3, 3, 2, 2, 65))
        self.refused(of_kind("list text"), "r", (7, 3, 2, 2, 1))
        self.refused(of_kind("list text"), "r", (7, 3, 2, 2, 200))

    def test_cut_short_anywhere(self):
        face = RecordsTest.face
        value = {"a": 10**9, "b": "hello", "c": {"n": 300, "t": "q"}, "d": ({"n": 256}, {"n": 4, "t": "z"}), "e": "tin"}
        body = written(face, "outer", value)
        for at in range(len(body)):
            self.refused(face, "outer", body[:at])
        long = face_of(*LONG)
        body = written(long, "holder", {"it": long_value(600), "them": (long_value(300),)})
        for at in range(1, len(body)):
            # Where the second field, which is may, is gone as a whole, the rest is a body.
            if body[:at] == written(long, "holder", {"it": long_value(600)}):
                continue
            self.refused(long, "holder", body[:at])

    def test_something_behind(self):
        face = RecordsTest.face
        body = written(face, "outer", {"a": 1, "c": {"n": 0}, "e": "tin"})
        for one in range(256):
            self.refused(face, "outer", body + (one,))
            self.refused(face, "outer", body + (one, 1))
            self.refused(face, "empty", (one,))
            self.refused(face, "empty", (one, 1))
        self.refused(face, "outer", body + body)
        self.refused(face, "outer", body + (0, 0, 0))


class DepthTest(WireTest):
    face = face_of(*RING)

    def test_eighty_and_eighty_one_records(self):
        for depth in (1, 2, 79, 80, 81, 82, 100, 200):
            body = nested_body(depth)
            with self.subTest(depth):
                if depth <= 80:
                    value = {}
                    for _ in range(depth - 1):
                        value = {"next": value}
                    self.same(self.face, "r", value, body)
                else:
                    self.refused(self.face, "r", body)

    def test_lists_count_too(self):
        for end in ((2, 3, 1, 4), (4, 3, 1, 2), (4, 3, 2, 2, 0)):
            self.assertEqual(written(self.face, "r", read(self.face, "r", nested_body(79, end))), nested_body(79, end))
            self.refused(self.face, "r", nested_body(80, end))

    def test_records_in_lists(self):
        for many, is_read in ((39, True), (40, False)):
            body, value = (), {}
            for _ in range(many):
                listed = (4,) + told_size(len(body)) + body
                body, value = (2, 3) + told_size(len(listed)) + listed, {"rest": (value,)}
            if is_read:
                self.same(self.face, "r", value, body)
                self.same(self.face, "r", {"next": value}, (1, 4) + told_size(len(body)) + body)
            else:
                self.refused(self.face, "r", body)

    def test_what_is_passed_over_is_not_looked_at(self):
        deep = nested_body(100)
        self.reads(self.face, "r", (9, 4) + told_size(len(deep)) + deep, {})
        body = nested_body(80, (9, 4) + told_size(len(deep)) + deep)
        self.assertEqual(written(self.face, "r", read(self.face, "r", body)), nested_body(80))

    def test_values_beyond_the_bounds_are_written_all_the_same(self):
        value = {}
        for _ in range(99):
            value = {"next": value}
        self.assertEqual(written(self.face, "r", value), nested_body(100))
        self.assertEqual(written(of_kind("whole"), "r", {"x": 10**9 + 1}), (7, 1, 4, 59, 154, 202, 1))
        self.assertEqual(written(of_kind("text"), "r", {"x": "A" * 21}), (7, 2, 21) + (65,) * 21)


class GreatTest(WireTest):
    def test_what_is_read_may_have_more_than_ten_thousand_numbers(self):
        rows = ["record big"] + [f" {n} {f} list record row may" for n, f in enumerate("abcde", 1)]
        face = face_of(*rows, "record row", *[f" {n} {f} list text may" for n, f in enumerate("abcde", 1)])
        row = {name: ("x" * 20,) * 6 for name in "abcde"}
        value = {name: (row,) * 6 for name in "abcde"}
        body = body_of(face, "big", value)
        self.assertGreater(len(body), 10000)
        self.assertIs(is_value(face, "big", value), False)
        self.reads(face, "big", body, value)
        self.assertEqual(written(face, "big", value), body)


class NobodyTest(WireTest):
    def test_kinds_that_name_nobody(self):
        for kind, marks in (("choice none", (1,)), ("record none", (4,)), ("choice m", (1,)), ("record c", (4,))):
            face = of_kind(kind, "may")
            for mark in (1, 2, 3, 4):
                for content in ((), (1,), (4,), (2, 1, 0)):
                    self.refused(face, "r", (7, mark, len(content)) + content)
            self.reads(face, "r", (), {})
            self.refused(of_kind(kind), "r", ())
            listed = of_kind(f"list {kind}", "may")
            for mark in (1, 2, 3, 4):
                self.refused(listed, "r", (7, 3, 1, mark))
                self.refused(listed, "r", (7, 3, 2, mark, 0))
            self.reads(listed, "r", (), {})
            self.refused(of_kind(f"list {kind}"), "r", ())

    def test_rings_of_must_fields(self):
        face = face_of("record r", " 1 x record r must")
        for body in ((), (1, 4, 0), (1, 4, 3, 1, 4, 0), nested_body(80), nested_body(200)):
            self.refused(face, "r", body)


class AnyThingTest(WireTest):
    def test_things_that_are_no_bodies(self):
        things = [thing for thing in any_things() if thing != ()]
        things += [nested(depth) for depth in range(1, 100)] + ["", "r", 0, 1, -1, 10**29, "\n", [], [7], {"x": "A"}, b"", b"\x07"]
        for thing in things:
            for record in ("e", "r", "m"):
                with self.subTest(repr(thing)[:40]):
                    self.refused(of_kind("text"), record, thing)

    def test_nearly_bodies(self):
        face = of_kind("truth")
        self.reads(face, "r", (7, 1, 1, 1), {"x": True})
        for body in ([7, 1, 1, 1], (7, 1, 1, True), (7, True, 1, 1), (7, 1, True, 1), (7, 1, False), (7, 1, 1, 1.0),
                     (7.0, 1, 1, 1), (7, 1, 1, "1"), ("7", 1, 1, 1), (7, 1, 1, (1,)), ((7, 1, 1, 1),), [(7, 1, 1, 1)],
                     ([7, 1, 1, 1],), (7, 1, 1, None), (None,), {"7": 1}, b"\x07\x01\x01\x01", "\x07\x01\x01\x01",
                     (7 + 256, 1, 1, 1), (7, 257, 1, 1), (7, 1, 257, 1), (7, 1, 1, 257), (7, 1, 1, -255), (-249, 1, 1, 1)):
            with self.subTest(body):
                self.refused(face, "r", body)

    def test_truths_and_numbers_out_of_bounds_at_each_place(self):
        face = RecordsTest.face
        body = written(face, "outer", {"a": 10**9, "b": "he", "c": {"n": 1, "t": "q"}, "d": ({"n": 0},), "e": "gold"})
        for at, number in enumerate(body):
            for bad in (256, -1, number + 256, number - 256, None, True, False, float(number), str(number), [number]):
                self.refused(face, "outer", body[:at] + (bad,) + body[at + 1:])
        self.refused(face, "outer", list(body))


class ManyTest(WireTest):
    def faces(self):
        rich = face_of(
            "choice p", " 1 gold", " 4 tin", "choice q", " 30 lead",
            "record a", " 1 a whole must", " 3 b truth must", " 4 c text may", " 9 d choice p may", " 30 e record b may",
            "record b", " 2 a list whole may", " 5 b list text must", " 6 c list choice q may", " 7 d list truth may",
            "record c", " 1 a record a must", " 2 b list record b must", " 3 c record c may", " 4 d list record c may",
        )
        return [rich, bank(), RecordsTest.face, face_of(*RING)]

    def test_every_value_is_read_back(self):
        dice = dice_of(1)
        for face in self.faces():
            for _ in range(150):
                record = dice.choice(face.records)[0]
                value = some_value(face, ("record", record), dice, 12)
                self.assertIs(is_value(face, record, value), True)
                self.same(face, record, value, body_of(face, record, value))

    def test_least_values_are_read_back(self):
        for face in self.faces():
            for record, fields in face.records:
                value = least(face, record)
                self.same(face, record, value, body_of(face, record, value))

    def test_bodies_that_are_somehow_otherwise(self):
        dice = dice_of(2)
        counts = {"read": 0, "refused": 0}
        for face in self.faces():
            for _ in range(700):
                record, other = dice.choice(face.records)[0], dice.choice(face.records)[0]
                body = list(body_of(face, record, some_value(face, ("record", record), dice, 8)))
                for _ in range(dice.randrange(3)):
                    self.spoil(body, dice)
                self.judge(face, dice.choice((record, record, other)), tuple(body), counts)
        self.assertGreater(min(counts.values()), 400)

    def test_short_bodies(self):
        dice = dice_of(3)
        counts = {"read": 0, "refused": 0}
        for face in self.faces():
            for _ in range(3000):
                body = tuple(dice.choice((0, 1, 1, 2, 3, 4, 5, 6, 9, 30, 200)) for _ in range(dice.randrange(8)))
                self.judge(face, dice.choice(face.records)[0], body, counts)
        self.assertGreater(min(counts.values()), 100)

    def spoil(self, body, dice):
        at = dice.randrange(len(body) + 1)
        one = dice.choice((0, 1, 2, 3, 4, 5, 30, 31, 37, 65, 199, 200, 255))
        how = dice.randrange(5)
        if how == 0:
            body[at:at + 1] = [one]
        elif how == 1:
            body[at:at + 1] = []
        elif how == 2:
            body[at:at] = [one]
        elif how == 3 and at < len(body):
            body[at] = (body[at] + dice.choice((1, 255))) % 256
        else:
            body.extend((dice.choice((10, 20, 31)), dice.randrange(6), 2, 0, 0))

    def judge(self, face, record, body, counts):
        try:
            value = value_of(face, record, body)
        except Refused:
            self.refused(face, record, body)
            counts["refused"] += 1
        else:
            self.reads(face, record, body, value)
            counts["read"] += 1


class OwnTest(WireTest):
    def test_told_values_are_the_askers_own(self):
        face = RecordsTest.face
        value = {"a": 1, "b": "b", "c": {"n": 2}, "d": ({"n": 3}, {"n": 3}), "e": "tin"}
        body = written(face, "outer", value)
        first = read(face, "outer", body)
        second = read(face, "outer", body)
        self.assertIsNot(first["c"], second["c"])
        self.assertIsNot(first["d"][0], first["d"][1])
        first["c"]["n"] = 7
        first["d"][0].clear()
        first["more"] = 1
        self.assertEqual(first["d"][1], {"n": 3})
        self.assertEqual(second, value)
        self.reads(face, "outer", body, value)

    def test_what_is_done_to_the_value_changes_no_body(self):
        face = RecordsTest.face
        value = {"a": 1, "c": {"n": 2}, "e": "tin"}
        kept = copy.deepcopy(value)
        body = written(face, "outer", value)
        value["c"]["n"] = 9
        self.assertEqual(body, written(face, "outer", kept))
        self.assertEqual(read(face, "outer", body), kept)

    def test_the_face_stays_as_it_was(self):
        face = bank()
        body = written(face, "request", {"who": "", "sum": 0})
        read(face, "request", body)["who"] = 1
        self.assertEqual(face, bank())


if __name__ == "__main__":
    unittest.main()
