"""Points 2, 3 and 27: the looker at ledgers and stores."""

import collections
import copy
import unittest

from facehouse.facetexts import read_face, show_face
from facehouse.ledger import fits
from tests.otherwise import otherwise, some_thing
from tests.plays import ENDS, book, dice_house, house, play
from tests.reference import dice_of
from tests.samples import any_things
from tests.second import repr_of
from tests.second_lookers import fits_so

SERVES = {end: serves for end, serves, _ in ENDS}
BOOK = book()
PUT, DRAW = 1, 2


def played():
    """A house in which all sorts of rows were done: by hand and below, done and faulted, at several ticks."""
    made = house()
    made.ask("ada", "bank", PUT, {"who": "x", "sum": 9})
    made.settle()
    made.tick()
    made.ask("ada", "shop", 1, {"who": "x", "sum": 4})
    made.ask("eve", "post", 2, {"who": "x", "sum": 1})
    made.settle()
    made.tick()
    made.tick()
    made.ask("ada", "shop", 2, {"who": "x", "sum": 2})
    made.ask("ada", "bank", DRAW, {"who": "y", "sum": 1})
    made.ask("ada", "shop", 1, {"who": "z", "sum": 1})
    made.settle()
    return made


def stores_of(made, ends):
    return {end: made.store(end) for end in ends}


ROWS = tuple(played().ledger())
STORES = stores_of(played(), SERVES)


class LedgerTest(unittest.TestCase):
    def look(self, faces, serves, rows, stores):
        """What the looker tells, once it is held against the second one, and nothing handed in was changed."""
        handed = repr_of([rows, stores]), repr_of(serves), [show_face(face) for face in faces]
        found = fits(faces, serves, rows, stores)
        self.assertIs(type(found), bool)
        self.assertIs(found, fits_so(faces, serves, rows, stores), repr((rows, stores))[:300])
        self.assertEqual((repr_of([rows, stores]), repr_of(serves), [show_face(face) for face in faces]), handed)
        return found

    def so(self, rows, stores=STORES, faces=BOOK, serves=SERVES):
        """Whether rows fit, by the book and ends of plays; the stores are those of played() where none are told."""
        return self.look(faces, serves, rows, stores)

    def test_nothing_done(self):
        empty = {end: {} for end in SERVES}
        self.assertIs(self.so([], empty), True)
        self.assertIs(fits(book=book(), serves=SERVES, rows=[], stores=empty), True)
        self.assertIs(fits(stores={"ada": {}}, rows=[], serves={"ada": None}, book=book()), True)
        self.assertIs(self.so([], {**empty, "bob": {"x": 1}}), False)

    def test_a_played_house(self):
        made = played()
        keys = [row[3] for row in made.ledger()]
        self.assertEqual(keys, [
            "ada1", "eve1", "ada2.bank2", "ada2.post1", "ada2", "ada4", "ada5.bank2", "ada3.bank3.post1", "ada5", "ada3.bank3", "ada3",
        ])
        self.assertIs(self.so(made.ledger()), True)

    def test_each_part_put_otherwise(self):
        made = played()
        rows, stores = made.ledger(), stores_of(made, SERVES)
        counts = collections.Counter()
        for other in otherwise(rows):
            counts[self.so(other, stores)] += 1
        for other in otherwise(stores):
            found = self.so(rows, other)
            counts[found] += 1
            self.assertIs(found, False)
        # Some parts may be otherwise: a tick, a sender.
        self.assertGreater(counts[True], 10)
        self.assertGreater(counts[False], 2000)

    def changed(self, at, place, part):
        """The rows of played() with one part of one row put otherwise."""
        rows = list(ROWS)
        rows[at] = rows[at][:place] + (part,) + rows[at][place + 1:]
        return rows

    def test_ticks(self):
        self.assertIs(self.so(self.changed(0, 0, 1)), True)
        self.assertIs(self.so(self.changed(0, 0, 2)), False)
        self.assertIs(self.so(self.changed(0, 0, -1)), False)
        self.assertIs(self.so(self.changed(0, 0, False)), False)
        self.assertIs(self.so(self.changed(1, 0, True)), False)
        self.assertIs(self.so(self.changed(10, 0, 10**29)), True)
        self.assertIs(self.so(self.changed(10, 0, 2)), False)
        self.assertIs(self.so(self.changed(5, 0, 4)), False)

    def test_ends_and_senders(self):
        self.assertIs(self.so(self.changed(0, 1, "cyd")), False)
        self.assertIs(self.so(self.changed(0, 1, "ada")), False)
        self.assertIs(self.so(self.changed(0, 1, "zed")), False)
        self.assertIs(self.so(self.changed(0, 2, "post")), False)
        self.assertIs(self.so(self.changed(0, 2, None)), False)
        for sender in ("cyd", "dan", "eve"):
            self.assertIs(self.so(self.changed(0, 4, sender)), True)
        for sender in ("bob", "zed", "", None, ("ada",), ["ada"], {}):
            self.assertIs(self.so(self.changed(0, 4, sender)), False)
            self.assertIs(self.so(self.changed(0, 1, sender)), sender == "bob")

    def test_an_end_that_serves_nothing_has_no_rows(self):
        rows = self.changed(0, 1, "ada")
        rows[0] = rows[0][:2] + (None,) + rows[0][3:]
        self.assertIs(self.so(rows), False)

    def test_two_ends_may_serve_one_face_to_the_looker(self):
        serves = {**SERVES, "zed": "bank"}
        rows = self.changed(0, 1, "zed")
        self.assertIs(self.so(rows, {end: {} for end in serves}, serves=serves), False)
        self.assertIs(self.so(rows[:1], {**{end: {} for end in serves}, "zed": {"x": 9}}, serves=serves), True)
        self.assertIs(self.so(rows[:1], {**{end: {} for end in serves}, "bob": {"x": 9}}, serves=serves), False)

    def test_keys(self):
        for key in ("zed7", "", "ada", "x" * 400, "ada01", "ADA 1", "\n"):
            self.assertIs(self.so(self.changed(0, 3, key)), True, key)
        for key in ("ada1.", ".", "ada1.bank", "ada1.bank2", "ada1.bank01", "ada1.post1", "ada1.bank1.", "eve1", "ada3.bank3", None, 1, ("ada1",), ["ada1"], {}):
            self.assertIs(self.so(self.changed(0, 3, key)), False, key)
        for key in ("ada1.bank1", ".bank1", "zed..bank1", "ada9.shop1.bank1"):
            self.assertIs(self.so(self.changed(0, 3, key)), True, key)
        # What is asked by another key isn't there.
        self.assertIs(self.so(self.changed(2, 3, "ada9.bank2")), False)
        self.assertIs(self.so(self.changed(4, 3, "ada9")), False)

    def test_a_row_left_out_twice_or_exchanged(self):
        rows = played().ledger()
        for at in range(len(rows)):
            found = self.so(rows[:at] + rows[at + 1:])
            # The look of eve, the faults that nobody takes, and what only asks, leave no trace in stores.
            self.assertIs(found, rows[at][3] in ("eve1", "ada4", "ada5", "ada3"), rows[at][3])
            self.assertIs(self.so(rows[:at] + [rows[at]] + rows[at:]), False)
            self.assertIs(self.so(rows + [rows[at]]), False)
        for at in range(len(rows) - 1):
            self.so(rows[:at] + [rows[at + 1], rows[at]] + rows[at + 2:])
        self.assertIs(self.so(rows[::-1]), False)

    def test_asks_below_are_answered_by_rows_ahead(self):
        rows = played().ledger()
        keys = [row[3] for row in rows]
        stores = stores_of(played(), SERVES)
        at = keys.index("ada2")
        # ada2 ahead of ada2.post1, which it asked.
        moved = rows[:at - 1] + [rows[at], rows[at - 1]] + rows[at + 1:]
        self.assertIs(self.so(moved, stores), False)
        self.assertIs(self.so(rows[:at - 1] + rows[at:], stores), False)

    def test_an_ask_below_needs_no_sender_and_no_body_of_the_one_above(self):
        rows = played().ledger()
        keys = [row[3] for row in rows]
        at = keys.index("ada2.post1")
        self.assertIs(self.so(self.changed(at, 4, "eve")), True)
        # Its ask isn't held against what would be asked: with another text it leaves another store.
        body = (1, 2, 1, 119, 2, 1, 1, 4)
        stores = stores_of(played(), SERVES)
        rows = self.changed(at, 7, body)
        self.assertIs(self.so(rows, stores), False)

    def test_another_body_of_an_ask_below_with_its_store(self):
        made = played()
        at = [row[3] for row in made.ledger()].index("ada3.bank3.post1")
        rows = self.changed(at, 7, (1, 2, 1, 119, 2, 1, 1, 6))
        stores = stores_of(made, SERVES)
        stores["cyd"] = {"x": 4, "w": 6}
        self.assertIs(self.so(rows, stores), True)

    def test_spoken(self):
        pairs = (("bank", 1), ("post", 1))
        others = {
            pairs + (("shop", 1),): True, pairs[:1]: False, pairs[1:]: False, (): False, pairs[::-1]: False, pairs + pairs[1:]: False,
            (("bank", 2), ("post", 1)): False, (("bank", True), ("post", 1)): False, (("bank", 1), ("post", "1")): False,
            (("bank", 1, 1), ("post", 1)): False, (("bank",), ("post", 1)): False, ("bank", ("post", 1)): False,
        }
        for spoken, found in others.items():
            self.assertIs(self.so(self.changed(0, 5, spoken)), found, spoken)
        for spoken in (list(pairs), (["bank", 1], ("post", 1)), (("bank", 1), ["post", 1]), ((["bank"], 1), ("post", 1)), None, {}, "bank"):
            self.assertIs(self.so(self.changed(0, 5, spoken)), False)

    def test_at_most_four_are_spoken(self):
        more = [read_face(f"face {name} 1\nrecord r\ncall 1 a r r") for name in ("xa", "xb", "xc")]
        faces = book() + tuple(more)
        for many in range(4):
            spoken = (("bank", 1), ("post", 1)) + tuple((face.name, 1) for face in more[:many])
            self.assertIs(self.so(self.changed(0, 5, spoken), faces=faces), len(spoken) <= 4)

    def test_nothing_may_be_wrong_among_them(self):
        # Without the post that send asks, though this row doesn't ask it.
        self.assertIs(self.so(self.changed(0, 5, (("bank", 1), ("shop", 1)))), False)

    def test_calls_and_bodies(self):
        for number in (0, 4, -1, True, None, "1", [1], 2, 3):
            self.assertIs(self.so(self.changed(0, 6, number)), False, number)
        ask = played().ledger()[0][7]
        for other in ((), ask[:-1], ask + (1,), list(ask), None, (True,) + ask[1:], ask[:-1] + (300,), ask[:-1] + (-1,), tuple(map(str, ask))):
            self.assertIs(self.so(self.changed(0, 7, other)), False, other)

    def test_what_came(self):
        for at, came in ((0, ("done", (1, 1, 1, 8))), (0, ("done", (1, 1, 1, 9, 2, 1, 0))), (0, ("done", [1, 1, 1, 9])),
                         (0, ["done", (1, 1, 1, 9)]), (0, ("done", (True, 1, 1, 9))), (0, ("done", (1, True, 1, 9))), (0, ("fault", "poor")),
                         (0, ("done",)), (0, ("done", (1, 1, 1, 9), 1)), (0, None), (0, ("late",)), (0, "done"), (0, ("ask", "post", 1, {})),
                         (5, ("fault", "rich")), (5, ("fault", "")), (5, ("fault",)), (5, ("fault", ("poor",))), (5, ["fault", "poor"]),
                         (5, ("done", ())), (5, ("done", "poor"))):
            self.assertIs(self.so(self.changed(at, 8, came)), False, came)

    def test_truths_for_numbers_in_stores(self):
        made = house()
        made.ask("ada", "bank", PUT, {"who": "x", "sum": 1})
        made.settle()
        stores = stores_of(made, SERVES)
        self.assertIs(self.so(made.ledger(), stores), True)
        for store in ({"x": True}, {"x": 1, "y": 0}, {"x": 1, "y": False}, {}, {"x": 2}, {"X": 1}, [("x", 1)], None, (("x", 1),), "x"):
            self.assertIs(self.so(made.ledger(), {**stores, "bob": store}), False, store)
            if store:
                self.assertIs(self.so(made.ledger(), {**stores, "eve": store}), False, store)
                self.assertIs(self.so(made.ledger(), {**stores, "cyd": store}), False, store)

    def test_an_end_more_or_one_less(self):
        made = played()
        rows, stores = made.ledger(), stores_of(made, SERVES)
        self.assertIs(self.so(rows, {**stores, "zed": {}}), False)
        self.assertIs(self.so(rows, {**stores, "zed": {}}, serves={**SERVES, "zed": None}), True)
        self.assertIs(self.so(rows, stores, serves={**SERVES, "zed": None}), False)
        for end in SERVES:
            fewer = {other: store for other, store in stores.items() if other != end}
            serves = {other: served for other, served in SERVES.items() if other != end}
            self.assertIs(self.so(rows, fewer), False)
            self.so(rows, fewer, serves=serves)
            self.assertIs(self.so(rows, stores, serves=serves), False)

    def test_any_things(self):
        made = played()
        rows, stores = made.ledger(), stores_of(made, SERVES)
        dice = dice_of(27)
        things = any_things() + [some_thing(dice) for _ in range(300)]
        for thing in things:
            self.assertIs(self.so(thing, stores), False)
            self.assertIs(self.so(rows, thing), False)
            self.assertIs(self.so([thing], stores), False)
            self.assertIs(self.so(rows[:3] + [thing] + rows[3:], stores), False)
            self.assertIs(self.so(rows, {**stores, "bob": thing}), False)
            self.assertIs(self.so(rows, {**stores, "ada": thing}), thing == {})
            for place in range(9):
                self.so(self.changed(2, place, thing), stores)
        empty = {end: {} for end in SERVES}
        for thing in things:
            self.assertIs(self.so(thing, empty), thing == [] and isinstance(thing, list))
            self.assertIs(self.so([], thing), False)

    def test_a_book_without_a_face(self):
        rows = played().ledger()
        for at in range(3):
            faces = book()
            self.assertIs(self.so(rows, faces=faces[:at] + faces[at + 1:]), False)

    def test_what_is_handed_in_stays(self):
        made = played()
        rows, stores = made.ledger(), stores_of(made, SERVES)
        kept = copy.deepcopy((rows, stores))
        fits(book(), SERVES, rows, stores)
        self.assertEqual((rows, stores), kept)

    def test_houses_by_dice(self):
        dice = dice_of(26)
        counts = collections.Counter()
        for turn in range(40):
            faces, ends, made, model = dice_house(dice)
            play(dice, made, model, 150)
            serves = {end: served for end, served, _ in ends}
            rows, stores = made.ledger(), stores_of(made, serves)
            self.assertIs(self.look(faces, serves, rows, stores), True)
            for at, other in enumerate(otherwise(rows)):
                if at % 43 == turn % 43:
                    counts[self.look(faces, serves, other, stores)] += 1
            for at, other in enumerate(otherwise(stores)):
                if at % 5 == turn % 5:
                    self.assertIs(self.look(faces, serves, rows, other), False)
        self.assertGreater(min(counts.values()), 100, counts)


if __name__ == "__main__":
    unittest.main()
