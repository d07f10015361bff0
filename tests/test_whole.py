"""Points 1, 2 and 3: the promise over the whole, by houses played long, written down and read between."""

import collections
import inspect
import unittest

from facehouse import deeds, errors, faces, facetexts, housetexts, kin, ledger, letters, rights, rolls, talk, traces, values, wire
from facehouse import house as houses
from facehouse.errors import NoRoll
from facehouse.facetexts import read_face
from facehouse.house import House
from facehouse.housetexts import read_house, show_house
from facehouse.ledger import fits
from facehouse.rolls import plan
from facehouse.traces import explains, trace
from tests.plays import dice_deed, dice_house, toggled_face
from tests.reference import dice_of, value_of
from tests.second import Refusal, calls
from tests.test_plays import REFUSALS

# The interface, as the document lists it.
FUNCTIONS = {
    facetexts: {"show_face": "(face)", "read_face": "(text)"},
    rights: {"wrong": "(face)"},
    values: {"is_value": "(face, record, thing)", "least": "(face, record)"},
    wire: {"written": "(face, record, value)", "read": "(face, record, body)"},
    kin: {"reads": "(reader, one, writer, other)", "unread": "(reader, one, writer, other)"},
    talk: {"talks": "(asker, server)", "untalked": "(asker, server)"},
    deeds: {
        "wrong_among": "(face, spoken=())", "asked": "(face, spoken, number, place, value)",
        "outcome": "(face, spoken, number, value, *, store, answers=())",
    },
    letters: {"key_of": "(end, n)", "key_below": "(key, face, number)"},
    ledger: {"fits": "(book, serves, rows, stores)"},
    traces: {"trace": "(house, key)", "explains": "(book, thing)"},
    rolls: {"plan": "(book, face, server, speakers, goals)", "rolls_so": "(book, face, server, speakers, goals, paper)"},
    housetexts: {"show_house": "(house)", "read_house": "(text)"},
}
METHODS = {
    faces.Face: {
        "__init__": "(self, name, edition, *, choices=(), records=(), calls=())", "fields_of": "(self, record)", "options_of": "(self, choice)",
        "call_of": "(self, number)", "call_named": "(self, name)", "call_numbers": "(self)",
    },
    letters.Letter: {"__init__": "(self, number, *, way, sender, goal, key, face, edition, call, body)"},
    houses.House: {
        "__init__": "(self, book, ends, *, room=6, waits=(1, 2, 4, 8))", "ask": "(self, end, face, number, value)", "carry": "(self, number)",
        "double": "(self, number)", "lose": "(self, number)", "work": "(self, end)", "tick": "(self)", "fall": "(self, end)", "rise": "(self, end)",
        "settle": "(self)", "roll": "(self, end, face, edition)", "run": "(self, deeds, *, stop=True)", "told": "(self, key)", "is_up": "(self, end)",
        "store": "(self, end)", "queue": "(self, end)", "open_asks": "(self, end)", "works": "(self, end)", "speaks": "(self, end)", "net": "(self)",
        "clock": "(self)", "ledger": "(self)",
    },
}


class InterfaceTest(unittest.TestCase):
    def test_functions(self):
        for module, names in FUNCTIONS.items():
            for name, signature in names.items():
                self.assertEqual(str(inspect.signature(getattr(module, name))), signature, name)

    def test_methods_stand_in_their_class(self):
        for owner, names in METHODS.items():
            for name, signature in names.items():
                self.assertIn(name, vars(owner), name)
                self.assertEqual(str(inspect.signature(vars(owner)[name])), signature, name)

    def test_values(self):
        self.assertEqual((houses.ROOM, houses.WAITS), (6, (1, 2, 4, 8)))


class WholeTest(unittest.TestCase):
    def lookers_let_by(self, book, serves, made):
        """That each key is done once, the ledger explains the stores, and each trace itself."""
        rows = made.ledger()
        self.assertEqual(len({row[3] for row in rows}), len(rows))
        self.assertIs(fits(book, serves, rows, {end: made.store(end) for end in serves}), True)
        for row in rows:
            self.assertIs(explains(book, trace(made, row[3])), True)

    def tells(self, made, ends):
        """What is told of all keys."""
        found = {}
        for end in ends:
            at = 1
            while True:
                try:
                    found[f"{end}{at}"] = made.told(f"{end}{at}")
                except errors.NoKey:
                    break
                at += 1
        return found

    def test_long_plays_written_down_between(self):
        dice = dice_of(3)
        counts = collections.Counter()
        for _ in range(30):
            book, ends, made, model = dice_house(dice)
            serves = {end: served for end, served, _ in ends}
            final = {}
            for _ in range(5):
                self.play(dice, made, model, 60)
                now = self.tells(made, serves)
                for key, told in final.items():
                    self.assertEqual(now[key], told)
                final.update({key: told for key, told in now.items() if told != ("open",)})
                for key, told in final.items():
                    counts[told[0]] += 1
                    self.was_done(book, made, model, key, told)
                if dice.random() < 0.5:
                    made = read_house(show_house(made))
                    model.fall_silent()
                    final.update({key: ("lost",) for key, told in now.items() if told == ("open",)})
            self.lookers_let_by(book, serves, made)
            self.come_to_their_end(made, model, serves)
            self.lookers_let_by(book, serves, made)
        self.assertGreater(min(counts[word] for word in ("done", "fault", "late", "lost")), 20, counts)

    def play(self, dice, made, model, many):
        """Deeds on a house and its model: nothing but the refusals that are told ever comes."""
        for _ in range(many):
            deed = dice_deed(dice, model)
            try:
                getattr(made, deed[0])(*deed[1:])
                done = True
            except REFUSALS:
                done = False
            try:
                model.do(deed)
                self.assertTrue(done, deed)
            except Refusal:
                self.assertFalse(done, deed)

    def was_done(self, book, made, model, key, told):
        """That what is told done was done, by the edition by which it was read."""
        if told[0] not in ("done", "fault"):
            return
        row = [row for row in made.ledger() if row[3] == key][0]
        if told[0] == "fault":
            self.assertEqual(row[8], told)
            return
        end = key.rstrip("0123456789")
        _, name, edition, number, body = model.stands[end][int(key[len(end):]) - 1]
        face = [face for face in book if (face.name, face.edition) == (name, edition)][0]
        self.assertEqual(row[8], ("done", body))
        self.assertEqual(told[1], value_of(face, calls(face)[number].answer, body))

    def come_to_their_end(self, made, model, ends):
        """Once all ends are up, letters carried and worked, and the waits over, no ask is open."""
        for end in ends:
            if not made.is_up(end):
                made.rise(end)
        for _ in range(sum(model.waits) * 4 + 4):
            made.settle()
            made.tick()
        made.settle()
        for end in ends:
            self.assertEqual((made.open_asks(end), made.works(end), made.queue(end)), ([], [], []))
        self.assertNotIn(("open",), self.tells(made, ends).values())

    def test_asks_come_to_an_answer_where_nobody_falls(self):
        dice = dice_of(4)
        done = 0
        for _ in range(40):
            _, ends, made, model = dice_house(dice)
            for _ in range(60):
                deed = dice_deed(dice, model)
                if deed[0] not in ("fall", "lose", "tick", "settle"):
                    made.run([deed], stop=False)
                    try:
                        model.do(deed)
                    except Refusal:
                        pass
            # What a small room lost is sent again.
            for _ in range(sum(model.waits) + 1):
                made.settle()
                made.tick()
            for told in self.tells(made, [end for end, _, _ in ends]).values():
                self.assertNotEqual(told, ("open",))
                done += told[0] in ("done", "fault")
        self.assertGreater(done, 200)

    def test_a_plan_is_rolled(self):
        """Where nothing is under way, a plan's steps are let by a house of faces that ask nobody, one by one."""
        dice = dice_of(5)
        rolled = 0
        while rolled < 40:
            book = tuple(toggled_face(dice, "aa", edition, ()) for edition in range(1, 6))
            speakers = tuple((end, dice.randrange(1, 6)) for end in ("ann", "ben", "cat"))
            goals = tuple((end, dice.randrange(1, 6)) for end, _ in speakers)
            ends = tuple((end, "aa" if end == "ben" else None, (("aa", edition),)) for end, edition in speakers)
            try:
                made = House(book, ends)
            except errors.NoHouse:
                continue
            word, steps = plan(book, "aa", "ben", speakers, goals)
            if word == "none":
                continue
            for end, edition in steps:
                made.roll(end, "aa", edition)
                rolled += 1
            self.assertEqual(tuple((end, made.speaks(end)[0][1]) for end, _ in goals), goals)

    def test_what_a_rolling_would_lead_to_is_shown(self):
        """A letter that keeps an end from rolling can't be read by the edition that was refused."""
        dice = dice_of(6)
        shown = collections.Counter()
        while min(shown["letter"], shown["key"]) < 12:
            book, _, made, model = dice_house(dice)
            books = {(face.name, face.edition): face for face in book}
            for _ in range(120):
                deed = dice_deed(dice, model)
                try:
                    getattr(made, deed[0])(*deed[1:])
                except NoRoll as refusal:
                    shown[refusal.why[0]] += 1
                    if refusal.why[0] == "letter":
                        self.not_read(made, books[deed[2], deed[3]], deed[1], refusal.why[1])
                except REFUSALS:
                    pass
                try:
                    model.do(deed)
                except Refusal:
                    pass

    def not_read(self, made, face, end, number):
        letter = [one for one in made.net() + made.queue(end) if one.number == number][0]
        self.assertEqual((letter.goal, letter.face), (end, face.name))
        if letter.call in face.call_numbers():
            place = 2 if letter.way == "ask" else 3
            with self.assertRaises(errors.NoBody):
                wire.read(face, face.call_of(letter.call)[place], letter.body)

    def test_a_story(self):
        """Faces of a text, asked through losses, doubles, falls and a rolling, to the last letter."""
        rows = "record r\n 1 left whole must\nrecord w\n 1 who text must\n 2 sum whole must\n{}call 1 put w r\n add who sum\n tell left who"
        first, second = read_face("face bank 1\n" + rows.format("")), read_face("face bank 2\n" + rows.format(" 3 memo text may\n"))
        made = House((first, second), (("ada", None, (("bank", 1),)), ("bob", "bank", (("bank", 1),))))
        key = made.ask("ada", "bank", 1, {"who": "ada", "sum": 5})
        made.lose(1)
        made.tick()
        made.double(2)
        made.carry(2)
        self.assertEqual(made.work("bob"), "done")
        made.fall("bob")
        made.rise("bob")
        made.roll("bob", "bank", 2)
        made.carry(3)
        self.assertEqual(made.work("bob"), "again")
        made.roll("ada", "bank", 2)
        made.settle()
        self.assertEqual((made.told(key), made.store("bob"), len(made.ledger())), (("done", {"left": 5}), {"ada": 5}, 1))
        self.lookers_let_by((first, second), {"ada": None, "bob": "bank"}, made)
        again = read_house(show_house(made))
        self.assertEqual((again.told(key), again.ledger(), again.speaks("ada")), (made.told(key), made.ledger(), (("bank", 2),)))


if __name__ == "__main__":
    unittest.main()
