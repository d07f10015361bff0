"""Points 2, 3 and 12: which edition reads which, and a value that shows where one doesn't."""

import itertools
import unittest

from facehouse.errors import NoBody
from facehouse.facetexts import show_face
from facehouse.kin import reads, unread
from facehouse.rights import wrong
from facehouse.values import is_value
from facehouse.wire import read, written
from tests.reference import Refused, body_of, dice_of, pairs_that_read, some_value, value_of
from tests.samples import face_of

CHOICES = (
    "choice one", " 1 w", "choice onetwo", " 1 w", " 2 v", "choice two", " 2 w", "choice twoone", " 1 v", " 2 w",
)
# The numbers that each kind of number can be; none where it can be all.
NUMBERS = {
    "whole": None, "truth": {0, 1}, "choice one": {1}, "choice onetwo": {1, 2}, "choice two": {2},
    "choice twoone": {1, 2},
}
SINGLES = tuple(NUMBERS) + ("text", "record num", "record word")
KINDS = SINGLES + tuple([f"list {kind}" for kind in SINGLES])
NEEDS = ("must", "may")


def expected(kind, other):
    """Whether the kind of a reader is to read the other kind, by the rules told for each two of KINDS."""
    if kind.startswith("list ") or other.startswith("list "):
        return kind[:5] == other[:5] == "list " and expected(kind[5:], other[5:])
    if kind in NUMBERS and other in NUMBERS:
        if NUMBERS[kind] is None or NUMBERS[other] is None:
            return NUMBERS[kind] is None
        return NUMBERS[other] <= NUMBERS[kind]
    return kind == other


def of_kind(kind, need="must", name="x", number=4):
    """A face whose record r has one field of a kind; none where this is None."""
    row = [f" {number} {name} {kind} {need}"] if kind else []
    return face_of(
        *CHOICES, "record num", " 1 n whole must", "record r", *row, "record word", " 1 n text must",
    )


def ring(names, field="next", kind="record {}", last=()):
    """Rows of records, each of which holds the next one by a may field 1, the last one the first."""
    rows = {}
    for at, name in enumerate(names):
        rows[name] = [f" 1 {field} {kind.format(names[(at + 1) % len(names)])} may"]
    rows[names[-1]] += list(last)
    return sum([[f"record {name}"] + rows[name] for name in sorted(names)], [])


class KinTest(unittest.TestCase):
    def kin(self, is_read, reader, one, writer, other):
        """Whether it reads, and if not, that the told value shows it."""
        shown = show_face(reader), show_face(writer)
        self.assertEqual((wrong(reader), wrong(writer)), ([], []))
        self.assertIs(reads(reader, one, writer, other), is_read)
        value = unread(reader, one, writer, other)
        if is_read:
            self.assertIsNone(value)
        else:
            self.shows(reader, one, writer, other, value)
        self.assertEqual((show_face(reader), show_face(writer)), shown)
        return value

    def shows(self, reader, one, writer, other, value):
        self.assertIs(is_value(writer, other, value), True, value)
        body = written(writer, other, value)
        self.assertEqual(body, body_of(writer, other, value))
        self.assertEqual(read(writer, other, body), value)
        with self.assertRaises(NoBody):
            read(reader, one, body)
        with self.assertRaises(Refused):
            value_of(reader, one, body)


class KindsTest(KinTest):
    def test_every_kind_against_every_kind(self):
        for kind, other in itertools.product(KINDS, KINDS):
            with self.subTest(kind=kind, other=other):
                self.kin(expected(kind, other), of_kind(kind), "r", of_kind(other), "r")

    def test_every_kind_against_every_kind_by_may_fields(self):
        for kind, other in itertools.product(KINDS, KINDS):
            with self.subTest(kind=kind, other=other):
                self.kin(expected(kind, other), of_kind(kind, "may"), "r", of_kind(other, "may"), "r")
                self.kin(expected(kind, other), of_kind(kind, "may"), "r", of_kind(other, "must"), "r")

    def test_some_that_the_document_names(self):
        for kind, other, is_read in (
            ("whole", "truth", True), ("whole", "choice one", True), ("truth", "whole", False), ("truth", "truth", True),
            ("choice one", "truth", False), ("truth", "choice one", True), ("truth", "choice onetwo", False),
            ("truth", "choice two", False), ("choice onetwo", "truth", False), ("text", "text", True),
            ("list whole", "list choice two", True), ("list text", "list whole", False), ("whole", "text", False),
        ):
            with self.subTest(kind=kind, other=other):
                self.assertIs(expected(kind, other), is_read)
                self.kin(is_read, of_kind(kind), "r", of_kind(other), "r")

    def test_choices(self):
        for mine in itertools.chain.from_iterable(itertools.combinations((1, 2, 29, 30), many) for many in range(1, 5)):
            for theirs in itertools.chain.from_iterable(itertools.combinations((1, 2, 29, 30), m) for m in range(1, 5)):
                reader = face_of("choice c", *[f" {n} {'abcd'[at]}" for at, n in enumerate(mine)],
                                 "record r", " 1 x choice c must")
                writer = face_of("choice d", *[f" {n} {'dcba'[at]}" for at, n in enumerate(theirs)],
                                 "record s", " 1 y choice d must")
                with self.subTest(mine=mine, theirs=theirs):
                    self.kin(set(theirs) <= set(mine), reader, "r", writer, "s")

    def test_a_choice_of_all_that_it_can_be_reads_no_whole(self):
        reader = face_of("choice c", *[f" {n} {'abcdef'[n - 1]}" for n in range(1, 7)], "record r", " 4 x choice c must")
        self.kin(False, reader, "r", of_kind("whole"), "r")
        self.kin(False, reader, "r", of_kind("truth"), "r")
        self.kin(True, of_kind("whole"), "r", reader, "r")


class NeedsTest(KinTest):
    def test_must_may_and_nothing(self):
        for kind in KINDS:
            for need, other in itertools.product(NEEDS + (None,), NEEDS + (None,)):
                reader = of_kind(kind if need else None, need)
                writer = of_kind(kind if other else None, other)
                with self.subTest(kind=kind, need=need, other=other):
                    self.kin(need != "must" or other == "must", reader, "r", writer, "r")

    def test_kinds_count_where_both_have_the_number_alone(self):
        self.kin(True, of_kind("whole", "may"), "r", of_kind("text", number=5), "r")
        self.kin(True, of_kind(None), "r", of_kind("text"), "r")
        self.kin(True, of_kind("whole", "may"), "r", of_kind(None), "r")
        self.kin(False, of_kind("whole", "may"), "r", of_kind("text", "may"), "r")

    def test_numbers_count_and_names_do_not(self):
        self.kin(True, of_kind("whole", name="a"), "r", of_kind("whole", name="b"), "r")
        self.kin(False, of_kind("whole", number=4), "r", of_kind("whole", number=5), "r")
        turned = face_of("record s", " 1 b whole must", " 2 a text must")
        straight = face_of("record r", " 1 a whole must", " 2 b text must", name="z")
        self.kin(True, turned, "s", straight, "r")
        self.kin(True, straight, "r", turned, "s")
        other = face_of("record r", " 1 b text must", " 2 a whole must")
        self.kin(False, other, "r", straight, "r")
        self.assertIn(unread(of_kind("text"), "r", of_kind("whole", name="zz"), "r")["zz"], range(10**9 + 1))

    def test_each_field_is_looked_at(self):
        base = [f" {n} {f} whole may" for n, f in enumerate("abcde", 1)]
        reader = face_of("record r", *base)
        for at in range(5):
            for row, is_read in ((f" {at + 1} z text may", False), (f" {at + 1} z truth must", True)):
                writer = face_of("record r", *base[:at], row, *base[at + 1:])
                self.kin(is_read, reader, "r", writer, "r")
            must = face_of("record r", *base[:at], f" {at + 1} z whole must", *base[at + 1:])
            self.kin(False, must, "r", reader, "r")
            self.kin(True, reader, "r", must, "r")
            self.kin(True, reader, "r", face_of("record r", *base[:at], *base[at + 1:]), "r")

    def test_other_fields_of_the_told_value_are_right(self):
        must = (" 2 b text must", " 3 c list whole must", " 4 d record s must", "record s", " 9 e whole must")
        writer = face_of("record r", " 1 a truth may", *must)
        reader = face_of("record r", " 1 a text may", *must)
        value = self.kin(False, reader, "r", writer, "r")
        self.assertIn("a", value)

    def test_records_without_fields(self):
        empty = face_of("record r")
        self.kin(True, empty, "r", empty, "r")
        self.assertEqual(self.kin(False, of_kind("whole"), "r", empty, "r"), {})
        self.kin(True, empty, "r", of_kind("record num"), "r")

    def test_one_face_as_reader_and_writer(self):
        face = face_of("record a", " 1 x whole must", "record b", " 1 x truth must", "record c", " 1 x whole may")
        for one, other, is_read in (("a", "a", True), ("a", "b", True), ("b", "a", False), ("a", "c", False),
                                    ("c", "a", True), ("c", "b", True), ("b", "c", False)):
            self.kin(is_read, face, one, face, other)

    def test_arguments_by_name(self):
        text, whole = of_kind("text"), of_kind("whole")
        self.assertIs(reads(reader=text, one="r", writer=text, other="r"), True)
        self.assertIs(reads(other="r", writer=whole, one="r", reader=text), False)
        self.assertIsNone(unread(reader=text, one="r", writer=text, other="r"))
        self.shows(text, "r", whole, "r", unread(other="r", writer=whole, one="r", reader=text))


class RingsTest(KinTest):
    def test_rings_that_read_each_other(self):
        names = "abcdef"
        for many, other in itertools.product(range(1, 7), range(1, 7)):
            for kind in ("record {}", "list record {}"):
                reader = face_of(*ring(names[:many], kind=kind))
                writer = face_of(*ring(names[:other][::-1], "down", kind=kind))
                with self.subTest(many=many, other=other, kind=kind):
                    self.kin(True, reader, "a", writer, writer.records[-1][0])

    def test_rings_that_part_deep_down(self):
        names = "abcdef"
        for many, other in itertools.product(range(1, 7), range(1, 7)):
            for kind in ("record {}", "list record {}"):
                reader = face_of(*ring(names[:many], kind=kind, last=[" 2 x text may"]))
                # Both rings are at their last record at once after so many steps, if ever.
                steps = [at for at in range(60) if at % many == many - 1 and at % other == other - 1]
                for last, is_read in (([" 2 y whole may"], not steps), ([" 2 y text must"], True), ([" 3 y truth must"], True)):
                    writer = face_of(*ring(names[:other], "down", kind=kind, last=last))
                    with self.subTest(many=many, other=other, kind=kind, last=last):
                        value = self.kin(is_read, reader, "a", writer, "a")
                        if value is not None:
                            self.assertEqual(self.depth(value), steps[0])

    def depth(self, value):
        """How many steps down a value goes by its fields of the name down."""
        steps = 0
        while "down" in value:
            value = value["down"][0] if isinstance(value["down"], tuple) else value["down"]
            steps += 1
        return steps

    def test_the_deepest_parting(self):
        # Behind twenty-nine steps by lists, where the records have as many must fields as right faces let.
        must = [" 3 a record z must", " 4 b list record z must"]
        rows = ring("abcde", kind="list record {}")
        writer = face_of(*rows, "record z", *[f" {n} {f} whole must" for n, f in enumerate("abcde", 1)])
        reader = face_of(*ring("abcdef", kind="list record {}", last=[" 2 x text must"]))
        value = self.kin(False, reader, "a", writer, "a")
        self.assertIsNotNone(value)
        rows = ring("abcde", "down", "list record {}", last=[" 2 x list text may"] + must)
        writer = face_of(*rows, "record z", *[f" {n} {f} whole must" for n, f in enumerate("abcde", 1)])
        reader = face_of(*ring("abcdef", kind="list record {}", last=[" 2 x list whole may"]))
        value = self.kin(False, reader, "a", writer, "a")
        self.assertEqual(self.depth(value), 29)

    def test_must_fields_in_rings_with_lists(self):
        reader = face_of("record a", " 1 x list record a must", " 2 n whole must")
        for row, is_read in ((" 2 n truth must", True), (" 2 n text must", False), (" 2 n whole may", False)):
            writer = face_of("record b", " 1 x list record c must", " 2 n whole must",
                             "record c", " 1 x list record b must", row)
            self.kin(is_read, reader, "a", writer, "b")
            self.kin(is_read, reader, "a", writer, "c")

    def test_two_ways_to_one_pair(self):
        # That a pair was looked at on one way takes nothing from the fields beside it.
        head = ("record a", " 1 x record b may", " 2 y record b may", " 3 z record c may", "record b", " 1 n whole may")
        reader = face_of(*head, "record c", " 1 n whole may")
        writer = face_of(*head, "record c", " 1 n text may")
        value = self.kin(False, reader, "a", writer, "a")
        self.assertEqual(list(value), ["z"])
        self.kin(True, reader, "a", reader, "a")

    def test_a_record_against_two_others(self):
        reader = face_of("record a", " 1 x record b may", " 2 y record b may", "record b", " 1 n truth may")
        rows = ("record a", " 1 x record b may", " 2 y record c may", "record b", " 1 n truth may", "record c")
        self.kin(False, reader, "a", face_of(*rows, " 1 n whole may"), "a")
        self.kin(True, reader, "a", face_of(*rows, " 1 n truth must"), "a")


def dice_face(dice, name):
    """A right face of three records and two choices by the throws of dice."""
    while True:
        rows = []
        for choice in ("g", "h"):
            numbers = sorted(dice.sample((1, 2, 3), dice.randrange(1, 4)))
            rows += [f"choice {choice}"] + [f" {n} {'abc'[at]}" for at, n in enumerate(numbers)]
        for record in "rst":
            rows.append(f"record {record}")
            for number in sorted(dice.sample((1, 2, 3), dice.randrange(4))):
                single = dice.choice(("whole", "whole", "truth", "text", "choice g", "choice h") + ("record r", "record s", "record t") * 2)
                kind = dice.choice(("", "", "list ")) + single
                rows.append(f" {number} {'xyz'[number - 1]} {kind} {dice.choice(NEEDS + ('may',))}")
        face = face_of(*rows, name=name)
        if not wrong(face):
            return face


def near(face, dice, name):
    """A right face that has one field otherwise than another face, or is like it."""
    rows = show_face(face).split("\n")[1:]
    while True:
        changed = list(rows)
        places = [at for at, row in enumerate(rows) if row.endswith(NEEDS)]
        if places:
            at = dice.choice(places)
            words = changed[at].split(" ")
            if dice.random() < 0.5:
                words[-1] = dice.choice(NEEDS)
            else:
                words[3:-1] = dice.choice(("whole", "truth", "text", "choice g", "list choice h", "record s")).split(" ")
            changed[at] = " ".join(words)
        found = face_of(*changed, name=name)
        if not wrong(found):
            return found


class ManyTest(KinTest):
    def test_faces_by_dice(self):
        dice = dice_of(12)
        counts = {True: 0, False: 0}
        for turn in range(250):
            writer = dice_face(dice, "w")
            reader = dice_face(dice, "r") if turn % 3 == 0 else near(writer, dice, "r")
            so = pairs_that_read(reader, writer)
            for one, other in itertools.product("rst", "rst"):
                is_read = (one, other) in so
                counts[is_read] += 1
                self.kin(is_read, reader, one, writer, other)
                if is_read:
                    self.reads_some(reader, one, writer, other, dice)
        self.assertGreater(min(counts.values()), 500)

    def reads_some(self, reader, one, writer, other, dice):
        """Values of a writer that is read are read."""
        for _ in range(3):
            value = some_value(writer, ("record", other), dice, 10)
            read(reader, one, written(writer, other, value))


class OwnTest(KinTest):
    def test_told_values_are_the_askers_own(self):
        rows = ring("abc", "down", "list record {}", last=[" 2 x whole must", " 3 y record z must", " 4 w record z must"])
        writer = face_of(*rows, "record z", " 1 n whole must")
        reader = face_of(*ring("abc", "down", "list record {}", last=[" 2 x text must"]))
        first = unread(reader, "a", writer, "a")
        kept = repr(first)
        second = unread(reader, "a", writer, "a")
        inner = first["down"][0]["down"][0]
        self.assertIsNot(inner["y"], inner["w"])
        inner["y"]["n"] = 5
        self.assertEqual(inner["w"], {"n": 0})
        inner.clear()
        first["more"] = 1
        self.assertEqual(repr(second), kept)
        self.assertEqual(repr(unread(reader, "a", writer, "a")), kept)


if __name__ == "__main__":
    unittest.main()
