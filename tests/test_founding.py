"""Points 2, 19 and 20: books and ends of which a house is made, and each reason why none is."""

import itertools
import unittest

from facehouse.errors import NoHouse
from facehouse.facetexts import read_face, show_face
from facehouse.house import ROOM, WAITS, House
from facehouse.rights import wrong
from tests.plays import END_SETS, ENDS, book, can_be_made, dice_book
from tests.reference import dice_of


def plain_face(name, edition=1, *asked, record=""):
    """A right face with a call go, of the number 1, that asks the calls go of other faces; record may have a field x."""
    rows = [f"face {name} {edition}", "record r"] + ([f" {record}"] if record else [])
    rows += ["call 1 go r r"] + [f" ask {other} go" for other in asked] + ([" copy x x"] if record else [])
    return read_face("\n".join(rows))


def wrong_face(name, edition=1):
    return read_face(f"face {name} {edition}\nrecord r\n 1 x record s must")


class FoundingTest(unittest.TestCase):
    def refused(self, faces, ends, why):
        """That no house is made for this reason, in whatever order the book's faces stand."""
        for order in itertools.islice(itertools.permutations(faces), 6):
            shown = [show_face(face) for face in order]
            with self.assertRaises(NoHouse) as caught:
                House(tuple(order), ends)
            self.assertEqual(caught.exception.why, why)
            self.assertIs(type(caught.exception.why), tuple)
            self.assertEqual([show_face(face) for face in order], shown)

    def test_what_is_meant_where_nothing_is_handed_in(self):
        self.assertEqual(ROOM, 6)
        self.assertEqual(WAITS, (1, 2, 4, 8))

    def test_the_least_house(self):
        made = House((plain_face("a"),), (("ada", "a", (("a", 1),)),))
        self.assertEqual(made.speaks("ada"), (("a", 1),))

    def test_an_end_serves_nothing(self):
        made = House((plain_face("a"),), (("ada", "a", (("a", 1),)), ("bob", None, (("a", 1),))))
        self.assertEqual(made.speaks("bob"), (("a", 1),))

    def test_all_as_at_first(self):
        made = House(book(), ENDS)
        for end, _, speaks in ENDS:
            self.assertIs(made.is_up(end), True)
            self.assertEqual(made.store(end), {})
            self.assertEqual(made.queue(end), [])
            self.assertEqual(made.open_asks(end), [])
            self.assertEqual(made.works(end), [])
            self.assertEqual(made.speaks(end), speaks)
        self.assertEqual((made.net(), made.clock(), made.ledger(), made.runs, made.steps), ([], 0, [], 0, 0))

    def test_arguments_by_name(self):
        made = House(ends=ENDS, book=book(), waits=(3,), room=2)
        self.assertEqual(made.clock(), 0)
        for more in ((2,), (2, (3,))):
            with self.assertRaises(TypeError):
                House(book(), ENDS, *more)

    def test_a_face_that_nobody_speaks_may_be_in_the_book(self):
        House(book() + (plain_face("zed"), plain_face("bank", 9)), ENDS)

    def test_wrong(self):
        ends = (("ada", "a", (("a", 1),)),)
        self.refused((plain_face("a"), wrong_face("b")), ends, ("wrong", "b", 1))
        self.refused((wrong_face("a", 2), plain_face("a")), ends, ("wrong", "a", 2))
        # The first by names, then by editions; 10 is behind 9.
        self.refused((wrong_face("c"), wrong_face("b", 10), wrong_face("b", 9)), ends, ("wrong", "b", 9))
        self.refused((wrong_face("c"), wrong_face("b", 7), plain_face("a")), ends, ("wrong", "b", 7))

    def test_edition(self):
        one, two = plain_face("a"), plain_face("b", 2)
        self.refused((one, two), (("ada", "a", (("a", 2),)),), ("edition", "ada", "a"))
        self.refused((one, two), (("ada", "a", (("a", 1), ("b", 1))),), ("edition", "ada", "b"))
        self.refused((one, two), (("ada", "a", (("a", 1), ("zed", 1))),), ("edition", "ada", "zed"))
        ends = (("ada", "a", (("a", 1),)), ("bob", "b", (("a", 3), ("b", 3))), ("cyd", None, (("a", 9),)))
        self.refused((one, two), ends, ("edition", "bob", "a"))

    def test_serves(self):
        one, two = plain_face("a"), plain_face("b")
        # Served by nobody; by two; not spoken by its server; and the first of several.
        self.refused((one, two), (("ada", "a", (("a", 1), ("b", 1))),), ("serves", "b"))
        self.refused((one, two), (("ada", None, (("a", 1),)),), ("serves", "a"))
        self.refused((one,), (("ada", "a", (("a", 1),)), ("bob", "a", (("a", 1),))), ("serves", "a"))
        self.refused((one, two), (("ada", "a", (("b", 1),)), ("bob", "b", (("b", 1),))), ("serves", "a"))
        self.refused((one, two), (("ada", "b", (("a", 1),)), ("bob", "a", (("b", 1),))), ("serves", "a"))
        self.refused((one, two), (("ada", "zed", (("a", 1),)), ("bob", "a", (("a", 1),))), ("serves", "zed"))
        ends = (("ada", "a", (("b", 1),)), ("bob", "a", (("a", 1),)), ("cyd", "b", (("b", 1),)))
        self.refused((one, two), ends, ("serves", "a"))
        ends = (("ada", "a", (("a", 1), ("b", 1))), ("bob", "b", (("a", 1),)))
        self.refused((one, two), ends, ("serves", "b"))

    def test_among(self):
        asking, asked = plain_face("a", 1, "b"), plain_face("b")
        server = ("bob", "b", (("b", 1),))
        House((asking, asked), (("ada", "a", (("a", 1), ("b", 1))), server))
        self.refused((asking, asked), (("ada", "a", (("a", 1),)), server), ("among", "ada"))
        self.refused((asking, plain_face("b", record="1 x whole must")),
                     (("ada", "a", (("a", 1), ("b", 1))), server), ("among", "ada"))
        both = (plain_face("a", 1, "c"), plain_face("b", 1, "c"), plain_face("c"))
        ends = (("ada", "b", (("b", 1),)), ("bob", "a", (("a", 1),)), ("cyd", "c", (("c", 1),)))
        self.refused(both, ends, ("among", "ada"))

    def test_the_edition_spoken_counts(self):
        faces = (plain_face("a", 1, "b"), plain_face("a", 2), plain_face("b"))
        House(faces, (("ada", "a", (("a", 2),)), ("bob", "b", (("b", 1),))))
        self.refused(faces, (("ada", "a", (("a", 1),)), ("bob", "b", (("b", 1),))), ("among", "ada"))

    def ring(self, names, *, tail=()):
        """Faces that ask each other in a ring, served by ends in the ring's order, and what asks into it."""
        faces = [plain_face(name, 1, names[(at + 1) % len(names)]) for at, name in enumerate(names)]
        faces += [plain_face(name, 1, names[0]) for name in tail]
        every = sorted(names + list(tail))
        speaks = tuple((name, 1) for name in every)
        return tuple(faces), tuple((f"e{chr(97 + at)}", name, speaks) for at, name in enumerate(list(names) + list(tail)))

    def test_rings(self):
        self.refused(*self.ring(["b", "a"]), ("ring", "a"))
        self.refused(*self.ring(["c", "b"]), ("ring", "b"))
        self.refused(*self.ring(["c", "d", "b"]), ("ring", "b"))
        self.refused(*self.ring(["d", "b", "c"]), ("ring", "b"))
        # What only asks into the ring isn't in it.
        self.refused(*self.ring(["c", "b"], tail=["a"]), ("ring", "b"))
        self.refused(*self.ring(["d", "c", "b"], tail=["a"]), ("ring", "b"))

    def test_a_face_that_asks_itself_is_wrong(self):
        self.refused((plain_face("a", 1, "a"),), (("ada", "a", (("a", 1),)),), ("wrong", "a", 1))

    def test_two_rings(self):
        faces = (plain_face("a", 1, "d"), plain_face("d", 1, "a"), plain_face("b", 1, "c"), plain_face("c", 1, "b"))
        speaks = tuple((name, 1) for name in "abcd")
        ends = tuple((f"e{name}", name, speaks) for name in "abcd")
        self.refused(faces, ends, ("ring", "a"))

    def test_no_ring(self):
        faces = (plain_face("a", 1, "b", "c"), plain_face("b", 1, "c"), plain_face("c"))
        speaks = tuple((name, 1) for name in "abc")
        House(faces, tuple((f"e{name}", name, speaks) for name in "abc"))

    def test_a_ring_only_by_the_editions_served(self):
        faces = (plain_face("a", 1, "b"), plain_face("b", 1, "a"), plain_face("b", 2))
        both = (("a", 1), ("b", 2))
        House(faces, (("ada", "a", both), ("bob", "b", both)))
        # Another end speaks the edition that would close the ring: what it speaks isn't served by it.
        House(faces, (("ada", "a", both), ("bob", "b", both), ("cyd", None, (("b", 1),))))
        self.refused(faces, (("ada", "a", both), ("bob", "b", (("a", 1), ("b", 1)))), ("ring", "a"))

    def test_talk(self):
        need = plain_face("a", 2, record="1 x whole must")
        faces = (plain_face("a"), need, plain_face("b"))
        server = ("bob", "a", (("a", 2),))
        self.refused(faces, (("ada", None, (("a", 1),)), server), ("talk", "ada", "a"))
        House(faces, (("ada", None, (("a", 2),)), server))
        # An answer without x isn't read by what wants one.
        self.refused(faces, (("ada", None, (("a", 2),)), ("bob", "a", (("a", 1),))), ("talk", "ada", "a"))
        faces += (plain_face("b", 2, record="1 x whole must"),)
        ends = (("ada", "b", (("a", 2), ("b", 2))), server, ("cyd", None, (("a", 1), ("b", 1))), ("dan", None, (("a", 1),)))
        self.refused(faces, ends, ("talk", "cyd", "a"))
        ends = (("ada", "b", (("a", 1), ("b", 2))), server, ("cyd", None, (("b", 1),)))
        self.refused(faces, ends, ("talk", "ada", "a"))
        ends = (("ada", "b", (("a", 2), ("b", 2))), server, ("cyd", None, (("b", 1),)))
        self.refused(faces, ends, ("talk", "cyd", "b"))

    def test_the_first_of_several_reasons(self):
        reasons = [
            ("wrong", "zed", 1), ("edition", "eve", "post"), ("serves", "zoo"), ("among", "dan"), ("ring", "bank"),
            ("talk", "ada", "shop"),
        ]
        for many in range(len(reasons)):
            faces, ends = self.spoilt(reasons[many:])
            with self.subTest(reasons[many]):
                self.refused(faces, ends, reasons[many])

    def spoilt(self, reasons):
        """A book and ends that can't make a house for all these reasons."""
        words = [reason[0] for reason in reasons]
        faces = [plain_face("bank", 1, "post"), plain_face("post"), plain_face("shop"), plain_face("shop", 2, record="1 x whole must")]
        ends = {
            "ada": (None, {"shop": 1}), "bob": ("bank", {"bank": 1, "post": 1}), "cyd": ("post", {"bank": 1, "post": 1}),
            "dan": ("shop", {"shop": 1}), "eve": (None, {"post": 1}),
        }
        if "wrong" in words:
            faces.append(wrong_face("zed"))
        if "edition" in words:
            ends["eve"] = (None, {"post": 9})
        if "serves" in words:
            faces.append(plain_face("zoo"))
            ends["cyd"][1]["zoo"] = 1
        if "among" in words:
            faces[2] = plain_face("shop", 1, "bank")
        if "ring" in words:
            faces[1] = plain_face("post", 1, "bank")
        if "talk" in words:
            ends["ada"] = (None, {"shop": 2})
        return tuple(faces), tuple((end, serves, tuple(sorted(speaks.items()))) for end, (serves, speaks) in ends.items())

    def test_what_is_spoilt_is_spoilt_by_this_alone(self):
        House(*self.spoilt([]))

    def test_by_dice(self):
        dice = dice_of(19)
        counts = {True: 0, "among": 0, "ring": 0, "talk": 0}
        for _ in range(120):
            faces = dice_book(dice)
            editions = {name: [face.edition for face in faces if face.name == name] for name in ("aa", "bb", "cc")}
            self.assertEqual([wrong(face) for face in faces], [[]] * len(faces))
            for _ in range(3):
                ends = tuple(
                    (end, serves, tuple((name, dice.choice(editions[name])) for name in speaks))
                    for end, serves, speaks in dice.choice(END_SETS)
                )
                try:
                    House(faces, ends)
                    so = True
                except NoHouse as refusal:
                    so = refusal.why[0]
                counts[so] += 1
                self.assertIs(can_be_made(faces, ends), so is True)
        self.assertGreater(min(counts[True], counts["among"], counts["talk"]), 20, counts)


if __name__ == "__main__":
    unittest.main()
