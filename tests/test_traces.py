"""Points 2, 3 and 28: traces, and the looker at them."""

import collections
import unittest

from facehouse.errors import NoKey
from facehouse.facetexts import read_face, show_face
from facehouse.house import House
from facehouse.traces import explains, trace
from tests.otherwise import otherwise, some_thing
from tests.plays import book, dice_house, house, play
from tests.reference import dice_of
from tests.samples import any_things
from tests.second import repr_of
from tests.second_lookers import explains_so, trace_of

BOOK = book()
BOB, CYD, DAN = (("bank", 1), ("post", 1)), (("post", 1),), (("bank", 1), ("post", 1), ("shop", 1))


def body(who, many):
    return (1, 2, len(who), *who.encode("ascii"), 2, 1, 1, many)


class TraceTest(unittest.TestCase):
    def look(self, faces, thing):
        """What the looker tells, once it is held against the second one, and nothing handed in was changed."""
        handed = repr_of(thing), [show_face(face) for face in faces]
        found = explains(faces, thing)
        self.assertIs(type(found), bool)
        self.assertIs(found, explains_so(faces, thing), repr(thing)[:300])
        self.assertEqual((repr_of(thing), [show_face(face) for face in faces]), handed)
        return found

    def made(self):
        """A house with something done: ada has put 9 under x."""
        made = house()
        made.ask("ada", "bank", 1, {"who": "x", "sum": 9})
        made.settle()
        return made


class PartsTest(TraceTest):
    def test_by_hand(self):
        made = self.made()
        told = trace(made, "ada1")
        self.assertEqual(told, ("bob", "bank", "ada1", BOB, 1, body("x", 9), (("x", 0),), ("done", (1, 1, 1, 9)), ()))
        self.assertEqual(trace(key="ada1", house=made), told)
        self.assertIs(self.look(BOOK, told), True)
        self.assertIs(explains(thing=told, book=BOOK), True)

    def test_before_is_the_store_ahead_of_the_row(self):
        made = self.made()
        made.ask("ada", "bank", 2, {"who": "x", "sum": 4})
        made.ask("ada", "bank", 2, {"who": "y", "sum": 0})
        made.settle()
        self.assertEqual([trace(made, f"ada{at}")[6] for at in (1, 2, 3)], [(("x", 0),), (("x", 9),), (("y", 0),)])
        self.assertEqual([trace(made, f"ada{at}")[7] for at in (2, 3)], [("done", (1, 1, 1, 5)), ("done", (1, 1, 0))])

    def test_a_fault(self):
        made = self.made()
        made.ask("ada", "bank", 2, {"who": "x", "sum": 10})
        made.ask("ada", "bank", 2, {"who": "x", "sum": 9})
        made.settle()
        self.assertEqual(trace(made, "ada2"), ("bob", "bank", "ada2", BOB, 2, body("x", 10), (("x", 9),), ("fault", "poor"), ()))
        # A fault leaves the store.
        self.assertEqual(trace(made, "ada3")[6], (("x", 9),))

    def test_children(self):
        made = self.made()
        made.ask("ada", "shop", 1, {"who": "x", "sum": 4})
        made.settle()
        one = ("bob", "bank", "ada2.bank2", BOB, 2, body("x", 4), (("x", 9),), ("done", (1, 1, 1, 5)), ())
        two = ("cyd", "post", "ada2.post1", CYD, 1, body("x", 4), (("x", 0),), ("done", (1, 1, 1, 4)), ())
        told = ("dan", "shop", "ada2", DAN, 1, body("x", 4), (("x", 0),), ("done", (1, 1, 1, 5, 2, 1, 1, 4)), (one, two))
        self.assertEqual(trace(made, "ada2"), told)
        self.assertEqual((trace(made, "ada2.bank2"), trace(made, "ada2.post1")), (one, two))
        for part in (told, one, two):
            self.assertIs(self.look(BOOK, part), True)

    def test_children_of_children(self):
        made = self.made()
        made.ask("ada", "shop", 2, {"who": "x", "sum": 4})
        made.settle()
        told = trace(made, "ada2")
        # The call gift looks at no text of the store.
        self.assertEqual((told[6], len(told[8])), ((), 1))
        self.assertEqual((told[8][0][2], told[8][0][8][0][2]), ("ada2.bank3", "ada2.bank3.post1"))
        self.assertIs(self.look(BOOK, told), True)

    def test_as_far_as_the_outcome_took_answers(self):
        made = house()
        # The bank refuses, so the post isn't asked.
        made.ask("ada", "shop", 1, {"who": "x", "sum": 4})
        made.settle()
        told = trace(made, "ada1")
        self.assertEqual((told[7], [child[2] for child in told[8]]), (("fault", "poor"), ["ada1.bank2"]))
        self.assertEqual(told[8][0][7], ("fault", "poor"))
        self.assertIs(self.look(BOOK, told), True)
        # The bank itself asks nobody where it refuses.
        made.ask("ada", "bank", 3, {"who": "x", "sum": 4})
        made.settle()
        told = trace(made, "ada2")
        self.assertEqual((told[6], told[7], told[8]), ((("x", 0),), ("fault", "poor"), ()))
        self.assertIs(self.look(BOOK, told), True)

    def test_before_has_the_texts_of_all_deeds(self):
        face = read_face(
            "face bank 1\nrecord give\n 1 left whole must\nrecord want\n 1 a text must\n 2 n whole must\n 3 b text must\n 4 c text must\n"
            "call 1 go want give\n take a n poor\n add b n\n tell left c"
        )
        made = House((face,), (("ada", "bank", (("bank", 1),)), ("bob", None, (("bank", 1),))))
        for a, b, c in (("z", "m", ""), ("z", "z", "z"), ("y", "x", "y"), (" b", "a", "B")):
            made.ask("bob", "bank", 1, {"a": a, "n": 0, "b": b, "c": c})
            made.ask("bob", "bank", 1, {"a": a, "n": 1, "b": b, "c": c})
        made.settle()
        tells = [trace(made, f"bob{at}")[6] for at in (1, 2, 3, 5, 7)]
        self.assertEqual(tells, [
            (("", 0), ("m", 0), ("z", 0)), (("", 0), ("m", 0), ("z", 0)), (("z", 0),), (("x", 0), ("y", 0)), ((" b", 0), ("B", 0), ("a", 0)),
        ])
        # bob2 faults at its first deed; texts of those behind stand there all the same.
        self.assertEqual(trace(made, "bob2")[7], ("fault", "poor"))
        for at in range(1, 9):
            self.assertIs(self.look((face,), trace(made, f"bob{at}")), True)

    def test_rollings_between(self):
        first = read_face("face bank 1\nrecord r\n 1 x whole may\nrecord w\n 1 who text must\n 2 n whole must\ncall 1 go w r\n add who n\n tell x who")
        second = read_face("face bank 2\nrecord r\n 1 x whole may\nrecord w\n 1 whom text must\n 2 n whole must\ncall 1 go w r\n add whom n\n add whom n")
        made = House((first, second), (("ada", "bank", (("bank", 1),)), ("bob", None, (("bank", 1),))))
        for edition in (1, 2, 1):
            made.roll("ada", "bank", edition)
            made.ask("bob", "bank", 1, {"who": "x", "n": 5})
            made.settle()
        self.assertEqual([trace(made, f"bob{at}")[6] for at in (1, 2, 3)], [(("x", 0),), (("x", 5),), (("x", 15),)])
        self.assertEqual([trace(made, f"bob{at}")[3] for at in (1, 2, 3)], [(("bank", 1),), (("bank", 2),), (("bank", 1),)])
        self.assertEqual([trace(made, f"bob{at}")[7] for at in (1, 2, 3)], [("done", (1, 1, 1, 5)), ("done", ()), ("done", (1, 1, 1, 20))])
        for at in (1, 2, 3):
            self.assertIs(self.look((first, second), trace(made, f"bob{at}")), True)

    def test_no_key(self):
        made = self.made()
        made.ask("ada", "bank", 1, {"who": "x", "sum": 9})
        for thing in any_things() + ["", "ada", "ada2", "ada1 ", "ada1.bank1", "bob1", 1, "ada01"]:
            with self.assertRaises(NoKey) as caught:
                trace(made, thing)
            self.assertIs(caught.exception.key, thing)
        with self.assertRaises(NoKey):
            trace(house(), "ada1")

    def test_later_rows_change_nothing(self):
        made = self.made()
        first = trace(made, "ada1")
        made.ask("ada", "bank", 1, {"who": "x", "sum": 9})
        made.settle()
        made.fall("bob")
        self.assertEqual(trace(made, "ada1"), first)


class LookerTest(TraceTest):
    def told(self):
        """Traces of all sorts of keys."""
        made = self.made()
        for deed in (("shop", 1, 4), ("shop", 2, 3), ("bank", 3, 1), ("bank", 3, 100), ("shop", 1, 50)):
            made.ask("ada", deed[0], deed[1], {"who": "x", "sum": deed[2]})
            made.settle()
        return [trace(made, row[3]) for row in made.ledger()]

    def test_each_and_each_child_by_itself(self):
        for told in self.told():
            self.assertIs(self.look(BOOK, told), True)
            for child in told[8]:
                self.assertIs(self.look(BOOK, child), True)

    def test_each_part_put_otherwise(self):
        counts = collections.Counter()
        for told in self.told():
            for other in otherwise(told):
                counts[self.look(BOOK, other)] += 1
        # Ends and keys by hand may be others.
        self.assertGreater(counts[True], 20)
        self.assertGreater(counts[False], 2000)

    def changed(self, told, place, part):
        return told[:place] + (part,) + told[place + 1:]

    def by_key(self, key):
        return [told for told in self.told() if told[2] == key][0]

    def test_ends_are_any_names(self):
        told = self.by_key("ada2")
        for end in ("a", "zed", "cyd", "abcdefgh"):
            self.assertIs(self.look(BOOK, self.changed(told, 0, end)), True)
        for end in ("", "abcdefghi", "Ada", "a1", "a b", None, 1, ("bob",), ["bob"]):
            self.assertIs(self.look(BOOK, self.changed(told, 0, end)), False)
        # A child may be of the same end.
        child = self.changed(told[8][0], 0, "dan")
        self.assertIs(self.look(BOOK, self.changed(told, 8, (child, told[8][1]))), True)

    def test_keys(self):
        leaf, above = self.by_key("ada1"), self.by_key("ada2")
        for key in ("x", "", "eve9", "x.bank1", ".bank1", "a.b.bank1"):
            self.assertIs(self.look(BOOK, self.changed(leaf, 2, key)), True, key)
        for key in ("x.bank2", "x.", ".", "x.bank", "x.post1", "x.bank01", None, 1, ["x"]):
            self.assertIs(self.look(BOOK, self.changed(leaf, 2, key)), False, key)
        # Children's keys are below the one above.
        self.assertIs(self.look(BOOK, self.changed(above, 2, "ada3")), False)
        one, two = above[8]
        self.assertIs(self.look(BOOK, self.changed(above, 8, (self.changed(one, 2, "ada3.bank2"), two))), False)
        self.assertIs(self.look(BOOK, self.changed(above, 8, (self.changed(one, 2, "ada2"), two))), False)
        both = (self.changed(one, 2, "zed.bank2"), self.changed(two, 2, "zed.post1"))
        self.assertIs(self.look(BOOK, self.changed(self.changed(above, 2, "zed"), 8, both)), True)

    def test_before(self):
        told = self.by_key("ada2")
        for before in ((), (("x", 1),), (("y", 0),), (("x", 0), ("y", 0)), (("x", 0), ("x", 0)), (("x", -1),), (("x", False),), [("x", 0)],
                       (["x", 0],), (("x",),), (("x", 0, 0),), (("x", None),), ((1, 0),), ("x",), None, {"x": 0}, (("x", 10**9 + 1),), ((["x"], 0),)):
            # The shop adds to x and tells nothing of it: any number that a store can have will do.
            self.assertIs(self.look(BOOK, self.changed(told, 6, before)), before == (("x", 1),), before)
        bank = self.by_key("ada1")
        self.assertIs(self.look(BOOK, self.changed(bank, 6, (("x", 1),))), False)
        self.assertIs(self.look(BOOK, self.changed(self.changed(bank, 6, (("x", 1),)), 7, ("done", (1, 1, 1, 10)))), True)
        top = self.changed(bank, 6, (("x", 10**9),))
        self.assertIs(self.look(BOOK, self.changed(top, 7, ("fault", "great"))), True)

    def test_children_more_fewer_exchanged(self):
        told = self.by_key("ada2")
        one, two = told[8]
        for children in ((), (one,), (two,), (two, one), (one, two, two), (one, one, two), (one, two, one), [one, two], None, (one, two, None), (one, None)):
            self.assertIs(self.look(BOOK, self.changed(told, 8, children)), False)
        fault = self.by_key("ada6")
        self.assertEqual(fault[7], ("fault", "poor"))
        self.assertIs(self.look(BOOK, self.changed(fault, 8, ())), False)
        self.assertIs(self.look(BOOK, self.changed(fault, 8, fault[8] + (two,))), False)
        quiet = self.by_key("ada1")
        self.assertIs(self.look(BOOK, self.changed(quiet, 8, (quiet,))), False)

    def test_asks_are_not_held_against_what_would_be_asked(self):
        told = self.by_key("ada2")
        one, two = told[8]
        # The child asks with another text, before has it, and it comes to the same.
        other = self.changed(self.changed(two, 5, body("w", 4)), 6, (("w", 0),))
        self.assertIs(self.look(BOOK, other), True)
        self.assertIs(self.look(BOOK, self.changed(told, 8, (one, other))), True)
        # Another answer of the child is another answer of the one above.
        other = self.changed(self.changed(two, 6, (("x", 1),)), 7, ("done", (1, 1, 1, 5)))
        self.assertIs(self.look(BOOK, self.changed(told, 8, (one, other))), False)
        moved = self.changed(self.changed(told, 8, (one, other)), 7, ("done", (1, 1, 1, 5, 2, 1, 1, 5)))
        self.assertIs(self.look(BOOK, moved), True)

    def test_a_book_without_one_of_the_faces(self):
        for told in self.told():
            needed = {name for name, _ in told[3]}
            for child in told[8]:
                needed |= {name for name, _ in child[3]}
            for at, face in enumerate(BOOK):
                self.assertIs(self.look(BOOK[:at] + BOOK[at + 1:], told), face.name not in needed)

    def test_any_things(self):
        dice = dice_of(28)
        told = self.by_key("ada2")
        for thing in any_things() + [some_thing(dice) for _ in range(400)]:
            self.assertIs(self.look(BOOK, thing), False)
            self.assertIs(self.look(BOOK, (thing,) * 9), False)
            for place in range(9):
                self.look(BOOK, self.changed(told, place, thing))
            self.assertIs(self.look(BOOK, self.changed(told, 8, (told[8][0], thing))), False)

    def test_deep_things(self):
        # A chain of traces, each within the next, that can't be one: it is told as such all the same.
        told = self.by_key("ada1")
        for _ in range(60):
            told = self.changed(told, 8, (told,))
        self.assertIs(explains(BOOK, told), False)

    def test_deep_traces(self):
        # Two faces that ask each other in turn, so deep as keys go: no house, but a trace that explains itself.
        rows = "record r\ncall 1 go r r\n ask {} go\ncall 2 end r r"
        faces = (read_face("face aa 1\n" + rows.format("bb")), read_face("face bb 1\n" + rows.format("aa")))
        spoken = (("aa", 1), ("bb", 1))
        depth = 40
        keys = ["x"]
        for at in range(1, depth):
            keys.append(f"{keys[-1]}.{'ab'[at % 2] * 2}1")
        told = None
        for at in reversed(range(depth)):
            name = "ab"[at % 2] * 2
            children = () if told is None else (told,)
            told = ("e", name, keys[at], spoken, 1, (), (), ("done", ()), children)
        # The innermost asks and has no child.
        self.assertIs(self.look(faces, told), False)
        quiet = (read_face("face aa 2\nrecord r\ncall 1 go r r"),) + faces
        last = ("e", "aa", "y.bb1.aa1", (("aa", 2),), 1, (), (), ("done", ()), ())
        middle = ("e", "bb", "y.bb1", (("aa", 2), ("bb", 1)), 1, (), (), ("done", ()), (last,))
        outer = ("e", "aa", "y", (("aa", 1), ("bb", 1)), 1, (), (), ("done", ()), (middle,))
        self.assertIs(self.look(quiet, outer), True)
        for depth in (3, 21, 41):
            self.assertIs(self.look(quiet, self.chain(depth)), True)

    def chain(self, depth):
        """A trace of a ring of faces, depth of them within one another, the innermost by an edition that asks nobody."""
        keys = ["y"]
        for at in range(1, depth):
            keys.append(f"{keys[-1]}.{'ab'[at % 2] * 2}1")
        children = ()
        for at in reversed(range(depth)):
            name = "ab"[at % 2] * 2
            spoken = (("aa", 2),) if at == depth - 1 else (("aa", 1), ("bb", 1))
            children = (("e", name, keys[at], spoken, 1, (), (), ("done", ()), children),)
        return children[0]


class PlayTest(TraceTest):
    def test_every_key_of_houses_by_dice(self):
        dice = dice_of(29)
        counts = collections.Counter()
        for turn in range(60):
            faces, _, made, model = dice_house(dice)
            play(dice, made, model, 150)
            for row in made.ledger():
                told = trace(made, row[3])
                self.assertEqual(repr_of(told), repr_of(trace_of(model, row[3])))
                self.assertIs(self.look(faces, told), True)
                counts[f"{len(told[8])} children"] += 1
                for at, other in enumerate(otherwise(told)):
                    if at % 29 == turn % 29:
                        counts[self.look(faces, other)] += 1
        self.assertGreater(min(counts[True], counts[False], counts["0 children"], counts["1 children"]), 30, counts)


if __name__ == "__main__":
    unittest.main()
