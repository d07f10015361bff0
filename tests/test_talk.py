"""Points 2, 3 and 13: which editions talk, and what stands in the way where they don't."""

import itertools
import unittest

from facehouse.errors import NoBody
from facehouse.facetexts import read_face, show_face
from facehouse.rights import wrong
from facehouse.talk import talks, untalked
from facehouse.values import is_value
from facehouse.wire import read, written
from tests.plays import dice_book
from tests.reference import Refused, body_of, dice_of, pairs_that_read, value_of
from tests.second import calls, do_talk


def edition(number, *calls_told, records=(), name="bank"):
    """An edition whose calls are told as (number, ask, answer), names of records."""
    rows = [f"face {name} {number}"]
    for record, fields in sorted({**RECORDS, **dict(records)}.items()):
        rows += [f"record {record}"] + [f" {field}" for field in fields]
    rows += [f"call {at} c{'abcdefghijklmnopqrstuvwxyz'[at % 26]} {ask} {answer}" for at, ask, answer in calls_told]
    return read_face("\n".join(rows))


RECORDS = {
    "empty": (),
    "may": ("1 x whole may",),
    "text": ("1 x text may",),
    "truth": ("1 x truth may",),
}
EMPTY = ("empty", "empty")


class TalkTest(unittest.TestCase):
    def way(self, asker, server):
        """What stands in the way, once it is looked at from all sides."""
        before = show_face(asker), show_face(server)
        self.assertEqual((wrong(asker), wrong(server)), ([], []))
        found = untalked(asker, server)
        self.assertIs(talks(asker, server), found is None)
        self.assertIs(do_talk(asker, server), found is None)
        if found is not None:
            self.shows(asker, server, found)
        self.assertEqual((show_face(asker), show_face(server)), before)
        return found

    def shows(self, asker, server, found):
        """That what is told is so, and nothing ahead of it is."""
        self.assertIs(type(found), tuple)
        word, number = found[:2]
        asking, serving = calls(asker), calls(server)
        asks, answers = pairs_that_read(server, asker), pairs_that_read(asker, server)
        for other in sorted(asking):
            missing = other not in serving
            unasked = not missing and (serving[other].ask, asking[other].ask) not in asks
            unanswered = not missing and (asking[other].answer, serving[other].answer) not in answers
            first = "call" if missing else "ask" if unasked else "answer" if unanswered else None
            if first:
                self.assertEqual((word, number), (first, other))
                break
        if word == "call":
            self.assertEqual(len(found), 2)
            return
        self.assertEqual(len(found), 3)
        writer, reader = (asker, server) if word == "ask" else (server, asker)
        place = 2 if word == "ask" else 3
        wrote, reads_it = writer.call_of(number)[place], reader.call_of(number)[place]
        self.assertIs(is_value(writer, wrote, found[2]), True)
        body = written(writer, wrote, found[2])
        self.assertEqual(body, body_of(writer, wrote, found[2]))
        with self.assertRaises(NoBody):
            read(reader, reads_it, body)
        with self.assertRaises(Refused):
            value_of(reader, reads_it, body)

    def test_each_talks_with_itself(self):
        dice = dice_of(3)
        for face in [edition(1), edition(1, (1, "may", "text"))] + list(dice_book(dice)) + list(dice_book(dice)):
            self.assertIsNone(self.way(face, face))

    def test_nothing_is_asked(self):
        self.assertIsNone(self.way(edition(1), edition(2)))
        self.assertIsNone(self.way(edition(1), edition(2, (1, "may", "text"))))

    def test_a_call_that_is_not_there(self):
        self.assertEqual(self.way(edition(1, (1, *EMPTY)), edition(2)), ("call", 1))
        self.assertEqual(self.way(edition(1, (30, *EMPTY)), edition(2, (29, *EMPTY))), ("call", 30))
        three = edition(1, (1, *EMPTY), (2, *EMPTY), (5, *EMPTY))
        self.assertEqual(self.way(three, edition(2, (1, *EMPTY), (3, *EMPTY))), ("call", 2))
        self.assertEqual(self.way(three, edition(2, (2, *EMPTY), (5, *EMPTY))), ("call", 1))
        self.assertIsNone(self.way(edition(2, (2, *EMPTY), (5, *EMPTY)), three))

    def test_numbers_count_and_names_do_not(self):
        asker = read_face("face bank 1\nrecord r\ncall 1 one r r\ncall 2 two r r")
        server = read_face("face bank 2\nrecord s\ncall 1 two s s\ncall 2 one s s")
        self.assertIsNone(self.way(asker, server))
        self.assertIsNone(self.way(server, asker))

    def test_an_ask_that_is_not_read(self):
        asker, server = edition(1, (4, "may", "empty")), edition(2, (4, "truth", "empty"))
        self.assertEqual(self.way(asker, server)[:2], ("ask", 4))
        self.assertIsNone(self.way(server, asker))

    def test_an_answer_that_is_not_read(self):
        asker, server = edition(1, (4, "empty", "truth")), edition(2, (4, "empty", "may"))
        self.assertEqual(self.way(asker, server)[:2], ("answer", 4))
        self.assertIsNone(self.way(server, asker))

    def test_all_pairs_of_records_both_ways(self):
        counts = {"ask": 0, "answer": 0, None: 0}
        for ask, answer, other_ask, other_answer in itertools.product(RECORDS, repeat=4):
            found = self.way(edition(1, (1, ask, answer)), edition(2, (1, other_ask, other_answer)))
            counts[found and found[0]] += 1
        self.assertTrue(all(counts.values()), counts)

    def test_several_at_once(self):
        bad = ("may", "truth")
        server_bad = ("truth", "may")
        # An ask and an answer at one call: the ask. At two calls: the least number, whatever the words.
        self.assertEqual(self.way(edition(1, (3, *bad)), edition(2, (3, *server_bad)))[:2], ("ask", 3))
        asker = edition(1, (1, "empty", "truth"), (2, "may", "empty"), (3, *EMPTY))
        self.assertEqual(self.way(asker, edition(2, (1, "empty", "may"), (2, "truth", "empty")))[:2], ("answer", 1))
        self.assertEqual(self.way(asker, edition(2, (1, "empty", "truth"), (2, "truth", "empty")))[:2], ("ask", 2))
        self.assertEqual(self.way(asker, edition(2, (1, "empty", "truth"), (2, "may", "empty"))), ("call", 3))
        self.assertEqual(self.way(asker, edition(2, (2, "truth", "empty"))), ("call", 1))

    def test_must_fields(self):
        for need, other, so in (("must", "must", None), ("must", "may", "ask"), ("may", "must", None)):
            server = edition(2, (1, "zz", "empty"), records={"zz": (f"1 x whole {need}",)})
            asker = edition(1, (1, "zz", "empty"), records={"zz": (f"1 x whole {other}",)})
            found = self.way(asker, server)
            self.assertEqual(found and found[0], so)

    def test_by_name(self):
        one, other = edition(1, (1, *EMPTY)), edition(2)
        self.assertIs(talks(asker=other, server=one), True)
        self.assertIs(talks(server=other, asker=one), False)
        self.assertEqual(untalked(server=other, asker=one), ("call", 1))
        self.assertIsNone(untalked(asker=other, server=one))

    def test_told_values_are_the_askers_own(self):
        records = {"zz": ("1 in record yy must", "2 x whole may"), "yy": ("1 y whole must",)}
        asker = edition(1, (1, "zz", "empty"), records=records)
        server = edition(2, (1, "zz", "empty"), records={**records, "zz": ("1 in record yy must", "2 x text may")})
        first = untalked(asker, server)
        kept = repr(first)
        first[2]["in"]["y"] = 7
        first[2].clear()
        self.assertEqual(repr(untalked(asker, server)), kept)

    def test_by_dice(self):
        dice = dice_of(13)
        counts = {"call": 0, "ask": 0, "answer": 0, None: 0}
        for _ in range(60):
            book = dice_book(dice)
            for one, other in itertools.product(book, book):
                if one.name == other.name:
                    found = self.way(one, other)
                    counts[found and found[0]] += 1
        self.assertGreater(min(counts.values()), 20, counts)


if __name__ == "__main__":
    unittest.main()
