"""Points 2, 3, 18 and 20 to 26: what is done in a house, deed by deed, with every refusal."""

import unittest

from facehouse.errors import Down, NoCall, NoKey, NoLetter, NoName, NoValue, NoWork, Up
from facehouse.facetexts import read_face
from facehouse.house import House
from facehouse.letters import Letter
from tests.plays import ENDS, book, house, plain
from tests.samples import any_things

FIELDS = {NoName: "name", NoCall: "number", Down: "end", Up: "end", NoLetter: "number", NoWork: "end", NoKey: "key", NoValue: None}
VALUE = {"who": "ada", "sum": 5}
BODY = (1, 2, 3, 97, 100, 97, 2, 1, 1, 5)
REPLY = (1, 1, 1, 5)
# Texts and numbers that are nobody's name, key or number, besides any things.
STRANGERS = ["", "ad", "adaa", "Ada", "ada ", "bank", "ada1", 0, 1, -1, 10**29]
BOB_SPEAKS = (("bank", 1), ("post", 1))


def seen(made):
    """All that a house tells to its questions."""
    keys = [f"{end}{at}" for end, _, _ in ENDS for at in range(1, 9)]
    tolds = []
    for key in keys:
        try:
            tolds.append((key, made.told(key)))
        except NoKey:
            pass
    ends = [
        (end, made.is_up(end), made.store(end), [plain(one) for one in made.queue(end)], made.open_asks(end), made.works(end), made.speaks(end))
        for end, _, _ in ENDS
    ]
    return repr((tolds, ends, [plain(one) for one in made.net()], made.clock(), made.ledger()))


class HouseTest(unittest.TestCase):
    def refused(self, made, error, thing, deed, *parts):
        """That a deed or a question is refused so, and changes nothing."""
        before = seen(made)
        with self.assertRaises(error) as caught:
            getattr(made, deed)(*parts)
        self.assertIs(type(caught.exception), error)
        if FIELDS[error]:
            self.assertIs(getattr(caught.exception, FIELDS[error]), thing)
        self.assertEqual(seen(made), before)

    def letter(self, number, way, sender, goal, key, face, call, body, edition=1):
        return Letter(number, way=way, sender=sender, goal=goal, key=key, face=face, edition=edition, call=call, body=body)


class AskTest(HouseTest):
    def test_an_ask(self):
        made = house()
        self.assertEqual(made.ask("ada", "bank", 1, dict(VALUE)), "ada1")
        letter = self.letter(1, "ask", "ada", "bob", "ada1", "bank", 1, BODY)
        self.assertEqual(made.net(), [letter])
        self.assertEqual(made.told("ada1"), ("open",))
        self.assertEqual(made.open_asks("ada"), ["ada1"])
        self.assertEqual((made.queue("bob"), made.works("bob"), made.ledger()), ([], [], []))

    def test_keys_and_numbers_go_on(self):
        made = house()
        keys = [made.ask(end, face, 2, dict(VALUE)) for end, face in (("ada", "bank"), ("dan", "bank"), ("ada", "bank"), ("eve", "post"), ("bob", "post"))]
        self.assertEqual(keys, ["ada1", "dan1", "ada2", "eve1", "bob1"])
        self.assertEqual([letter.number for letter in made.net()], [1, 2, 3, 4, 5])
        self.assertEqual([letter.goal for letter in made.net()], ["bob", "bob", "bob", "cyd", "cyd"])
        self.assertEqual([letter.sender for letter in made.net()], ["ada", "dan", "ada", "eve", "bob"])
        self.assertEqual(made.open_asks("ada"), ["ada1", "ada2"])

    def test_what_is_handed_in_stays_and_is_kept(self):
        made = house()
        value = dict(VALUE)
        made.ask("ada", "bank", 1, value)
        self.assertEqual(value, VALUE)
        value["sum"] = 9
        value.clear()
        self.assertEqual(made.net()[0].body, BODY)
        made.settle()
        self.assertEqual(made.told("ada1"), ("done", {"left": 5}))

    def test_by_name(self):
        made = house()
        self.assertEqual(made.ask(value=dict(VALUE), number=1, face="bank", end="ada"), "ada1")

    def test_refusals(self):
        made = house()
        for thing in any_things() + STRANGERS:
            self.refused(made, NoName, thing, "ask", thing, "bank", 1, VALUE)
            self.refused(made, NoName, thing, "ask", thing, thing, thing, thing)
        for thing in any_things() + ["", "ban", "post", "ada", 1]:
            self.refused(made, NoName, thing, "ask", "ada", thing, 1, VALUE)
            self.refused(made, NoName, thing, "ask", "ada", thing, thing, thing)
        self.refused(made, NoName, "bank", "ask", "bob", "bank", 1, VALUE)
        self.refused(made, NoName, "shop", "ask", "bob", "shop", 1, VALUE)
        for thing in any_things() + [0, 4, -1, "1", 10**29]:
            self.refused(made, NoCall, thing, "ask", "ada", "bank", thing, VALUE)
            self.refused(made, NoCall, thing, "ask", "ada", "bank", thing, thing)
        wrong_values = [{"who": "ada"}, {**VALUE, "more": 1}, {**VALUE, "sum": True}, {**VALUE, "sum": -1}, {**VALUE, "who": "x" * 21},
                        {**VALUE, "memo": None}, {**VALUE, "sum": 10**9 + 1}, {**VALUE, "who": ["a"]}, [VALUE], (VALUE,)]
        for thing in any_things() + wrong_values:
            self.refused(made, NoValue, thing, "ask", "ada", "bank", 1, thing)
        self.assertEqual(made.ask("ada", "bank", 1, VALUE), "ada1")

    def test_down_comes_ahead_of_all_but_the_end(self):
        made = house()
        made.fall("ada")
        self.refused(made, Down, "ada", "ask", "ada", "bank", 1, VALUE)
        for thing in any_things():
            self.refused(made, Down, "ada", "ask", "ada", thing, thing, thing)
            self.refused(made, NoName, thing, "ask", thing, "bank", 1, VALUE)

    def test_asks_forgotten_by_a_fall_are_counted(self):
        made = house()
        made.ask("ada", "bank", 1, VALUE)
        made.fall("ada")
        made.rise("ada")
        self.assertEqual(made.ask("ada", "bank", 1, VALUE), "ada2")
        self.assertEqual((made.told("ada1"), made.told("ada2")), (("lost",), ("open",)))


class NetTest(HouseTest):
    def asked(self, many, **more):
        made = house(**more)
        for _ in range(many):
            made.ask("ada", "bank", 1, VALUE)
        return made

    def test_carried_in_any_order(self):
        made = self.asked(4)
        self.assertEqual([made.carry(number) for number in (3, 1, 4, 2)], ["queued"] * 4)
        self.assertEqual([letter.number for letter in made.queue("bob")], [3, 1, 4, 2])
        self.assertEqual(made.net(), [])
        self.assertEqual([made.queue(end) for end in ("ada", "cyd", "dan", "eve")], [[]] * 4)

    def test_the_net_rises(self):
        made = self.asked(4)
        made.carry(2)
        self.assertEqual([letter.number for letter in made.net()], [1, 3, 4])
        self.assertEqual(made.double(3), 5)
        made.lose(1)
        self.assertEqual([letter.number for letter in made.net()], [3, 4, 5])

    def test_a_full_queue(self):
        for room in (1, 2, 6, 20):
            made = self.asked(room + 2, room=room)
            self.assertEqual([made.carry(number) for number in range(1, room + 1)], ["queued"] * room)
            self.assertEqual([made.carry(room + 1), made.carry(room + 2)], ["lost", "lost"])
            self.assertEqual((len(made.queue("bob")), made.net()), (room, []))
            made.work("bob")
            self.assertEqual(made.carry(room + 3), "queued")
            self.assertEqual(len(made.queue("ada")), 1)

    def test_room_where_nothing_is_handed_in(self):
        made = self.asked(7)
        self.assertEqual([made.carry(number) for number in range(1, 8)], ["queued"] * 6 + ["lost"])

    def test_an_end_that_is_down(self):
        made = self.asked(2)
        made.fall("bob")
        self.assertEqual(made.carry(1), "lost")
        made.rise("bob")
        self.assertEqual(made.queue("bob"), [])
        self.assertEqual(made.carry(2), "queued")

    def test_doubles(self):
        made = self.asked(1)
        self.assertEqual(made.double(1), 2)
        self.assertEqual(made.double(2), 3)
        first, second, third = made.net()
        self.assertEqual([plain(letter)[1:] for letter in (second, third)], [plain(first)[1:]] * 2)
        self.assertEqual([letter.number for letter in made.net()], [1, 2, 3])
        self.assertNotEqual(first, second)
        # The next ask goes on behind them.
        made.ask("ada", "bank", 1, VALUE)
        self.assertEqual(made.net()[-1].number, 4)

    def test_lost(self):
        made = self.asked(2)
        self.assertIsNone(made.lose(1))
        self.assertEqual([letter.number for letter in made.net()], [2])
        self.assertEqual(made.queue("bob"), [])
        self.assertEqual(made.told("ada1"), ("open",))

    def test_refusals(self):
        made = self.asked(3)
        made.carry(2)
        made.lose(3)
        for thing in any_things() + [0, 2, 3, 4, -1, "1", 10**29]:
            for deed in ("carry", "double", "lose"):
                self.refused(made, NoLetter, thing, deed, thing)
        self.assertEqual(made.carry(number=1), "queued")
        made.ask("ada", "bank", 1, VALUE)
        self.assertEqual(made.double(number=4), 5)
        made.lose(number=5)

    def test_what_is_told_is_the_askers_own(self):
        made = self.asked(2)
        made.carry(1)
        for question in (made.net, lambda: made.queue("bob"), lambda: made.open_asks("ada")):
            kept = repr(question())
            question().clear()
            question().append(1)
            self.assertEqual(repr(question()), kept)
        told = made.net()
        made.carry(2)
        self.assertEqual(len(told), 1)


class WorkTest(HouseTest):
    def worked(self, made, number, end, comes):
        self.assertEqual(made.carry(number), "queued")
        self.assertEqual(made.work(end), comes)

    def test_done_and_told(self):
        made = house()
        made.ask("ada", "bank", 1, VALUE)
        self.worked(made, 1, "bob", "done")
        self.assertEqual(made.store("bob"), {"ada": 5})
        row = (0, "bob", "bank", "ada1", "ada", BOB_SPEAKS, 1, BODY, ("done", REPLY))
        self.assertEqual(made.ledger(), [row])
        self.assertEqual(made.works("bob"), [])
        self.assertEqual(made.net(), [self.letter(2, "answer", "bob", "ada", "ada1", "bank", 1, REPLY)])
        self.assertEqual(made.told("ada1"), ("open",))
        self.worked(made, 2, "ada", "told")
        self.assertEqual(made.told("ada1"), ("done", {"left": 5}))
        self.assertEqual((made.open_asks("ada"), made.net(), made.ledger()), ([], [], [row]))

    def test_a_fault(self):
        made = house()
        made.ask("ada", "bank", 1, VALUE)
        made.settle()
        made.ask("ada", "bank", 2, {**VALUE, "sum": 6})
        self.worked(made, 3, "bob", "fault")
        self.assertEqual(made.store("bob"), {"ada": 5})
        self.assertEqual(made.ledger()[1][3:5] + made.ledger()[1][6:7] + made.ledger()[1][8:], ("ada2", "ada", 2, ("fault", "poor")))
        self.assertEqual(made.net(), [self.letter(4, "fault", "bob", "ada", "ada2", "bank", 2, tuple(b"poor"))])
        self.worked(made, 4, "ada", "told")
        self.assertEqual(made.told("ada2"), ("fault", "poor"))

    def test_too_great(self):
        made = house()
        made.ask("ada", "bank", 1, {"who": "x", "sum": 10**9})
        made.ask("ada", "bank", 1, {"who": "x", "sum": 1})
        made.settle()
        self.assertEqual((made.told("ada1"), made.told("ada2")), (("done", {"left": 10**9}), ("fault", "great")))
        self.assertEqual(made.store("bob"), {"x": 10**9})

    def test_again(self):
        made = house()
        made.ask("ada", "bank", 1, VALUE)
        made.double(1)
        made.double(1)
        self.worked(made, 1, "bob", "done")
        self.worked(made, 2, "bob", "again")
        made.ask("ada", "bank", 2, {**VALUE, "sum": 9})
        number = made.net()[-1].number
        made.double(number)
        self.worked(made, number, "bob", "fault")
        self.worked(made, number + 1, "bob", "again")
        answers = [plain(letter)[1:] for letter in made.net() if letter.way != "ask"]
        self.assertEqual(answers[0], answers[1])
        self.assertEqual(answers[2], answers[3])
        self.assertEqual(answers[2][0], "fault")
        self.assertEqual((made.store("bob"), len(made.ledger())), ({"ada": 5}, 2))
        self.worked(made, 3, "bob", "again")

    def test_old(self):
        made = house()
        made.ask("ada", "bank", 1, VALUE)
        made.carry(1)
        made.work("bob")
        made.double(2)
        made.double(2)
        self.worked(made, 2, "ada", "told")
        self.worked(made, 3, "ada", "old")
        self.assertEqual(made.told("ada1"), ("done", {"left": 5}))
        made.fall("ada")
        made.rise("ada")
        self.worked(made, 4, "ada", "old")
        self.assertEqual(made.told("ada1"), ("done", {"left": 5}))

    def test_old_behind_a_fall(self):
        made = house()
        made.ask("ada", "bank", 1, VALUE)
        made.carry(1)
        made.work("bob")
        made.fall("ada")
        made.rise("ada")
        self.worked(made, 2, "ada", "old")
        self.assertEqual(made.told("ada1"), ("lost",))

    def test_works_off_the_first_letter(self):
        made = house()
        for many in (1, 2, 3):
            made.ask("ada", "bank", 1, {"who": "x", "sum": many})
        for number in (2, 3, 1):
            made.carry(number)
        for key in ("ada2", "ada3", "ada1"):
            made.work("bob")
            self.assertEqual(made.ledger()[-1][3], key)
        self.assertEqual([row[8][1] for row in made.ledger()], [(1, 1, 1, 2), (1, 1, 1, 5), (1, 1, 1, 6)])

    def test_a_work_that_asks(self):
        made = house()
        made.ask("ada", "bank", 1, VALUE)
        made.settle()
        made.ask("ada", "bank", 3, {**VALUE, "memo": "m"})
        self.worked(made, 3, "bob", "asked")
        self.assertEqual((made.works("bob"), made.open_asks("bob")), (["ada2"], ["ada2.post1"]))
        self.assertEqual((made.store("bob"), len(made.ledger())), ({"ada": 5}, 1))
        self.assertEqual(made.net(), [self.letter(4, "ask", "bob", "cyd", "ada2.post1", "post", 1, BODY)])
        self.worked(made, 4, "cyd", "done")
        self.assertEqual(made.store("cyd"), {"ada": 5})
        self.assertEqual(made.ledger()[1][:7], (0, "cyd", "post", "ada2.post1", "bob", (("post", 1),), 1))
        self.worked(made, 5, "bob", "done")
        self.assertEqual((made.works("bob"), made.open_asks("bob"), made.store("bob")), ([], [], {}))
        self.worked(made, 6, "ada", "told")
        self.assertEqual(made.told("ada2"), ("done", {"left": 0, "mark": 5}))
        self.assertEqual([row[3] for row in made.ledger()], ["ada1", "ada2.post1", "ada2"])

    def test_keys_below_are_not_told(self):
        made = house()
        made.ask("ada", "bank", 1, VALUE)
        made.ask("ada", "bank", 3, VALUE)
        made.settle()
        self.assertEqual(made.told("ada2")[0], "done")
        self.refused(made, NoKey, "ada2.post1", "told", "ada2.post1")
        self.refused(made, NoKey, "bob1", "told", "bob1")

    def test_busy(self):
        made = house()
        made.ask("ada", "bank", 1, VALUE)
        made.settle()
        made.ask("ada", "bank", 3, VALUE)
        made.double(3)
        self.worked(made, 3, "bob", "asked")
        before = made.works("bob"), made.open_asks("bob"), len(made.net())
        self.worked(made, 4, "bob", "busy")
        self.assertEqual((made.works("bob"), made.open_asks("bob"), len(made.net()) + 1), before)
        made.settle()
        self.assertEqual(made.told("ada2")[0], "done")

    def test_a_work_that_asks_several(self):
        made = house()
        made.ask("ada", "bank", 1, {"who": "x", "sum": 9})
        made.settle()
        made.ask("ada", "shop", 1, {"who": "x", "sum": 4})
        self.worked(made, 3, "dan", "asked")
        self.assertEqual(made.open_asks("dan"), ["ada2.bank2"])
        self.worked(made, 4, "bob", "done")
        self.worked(made, 5, "dan", "asked")
        self.assertEqual(made.open_asks("dan"), ["ada2.post1"])
        self.assertEqual(made.works("dan"), ["ada2"])
        self.worked(made, 6, "cyd", "done")
        self.worked(made, 7, "dan", "done")
        self.worked(made, 8, "ada", "told")
        self.assertEqual(made.told("ada2"), ("done", {"left": 5, "mark": 4}))
        self.assertEqual([made.store(end) for end in ("bob", "cyd", "dan")], [{"x": 5}, {"x": 4}, {"x": 4}])

    def test_a_fault_of_what_was_asked(self):
        made = house()
        made.ask("ada", "shop", 1, {"who": "x", "sum": 4})
        self.worked(made, 1, "dan", "asked")
        self.worked(made, 2, "bob", "fault")
        self.worked(made, 3, "dan", "fault")
        self.worked(made, 4, "ada", "told")
        self.assertEqual(made.told("ada1"), ("fault", "poor"))
        self.assertEqual([(row[3], row[8]) for row in made.ledger()], [("ada1.bank2", ("fault", "poor")), ("ada1", ("fault", "poor"))])
        self.assertEqual([made.store(end) for end in ("bob", "cyd", "dan")], [{}, {}, {}])

    def test_asks_below_asks(self):
        made = house()
        made.ask("ada", "bank", 1, {"who": "x", "sum": 9})
        made.settle()
        made.ask("ada", "shop", 2, {"who": "x", "sum": 4})
        made.settle()
        self.assertEqual([row[3] for row in made.ledger()], ["ada1", "ada2.bank3.post1", "ada2.bank3", "ada2"])
        self.assertEqual(made.told("ada2"), ("done", {"left": 5}))

    def test_works_as_they_were_begun(self):
        made = house()
        made.ask("ada", "bank", 1, {"who": "x", "sum": 9})
        made.settle()
        for _ in range(3):
            made.ask("ada", "bank", 3, {"who": "x", "sum": 1})
        for number in (4, 3, 5):
            self.worked(made, number, "bob", "asked")
        self.assertEqual(made.works("bob"), ["ada3", "ada2", "ada4"])
        self.assertEqual(made.open_asks("bob"), ["ada3.post1", "ada2.post1", "ada4.post1"])
        made.works("bob").clear()
        self.assertEqual(made.works("bob"), ["ada3", "ada2", "ada4"])

    def test_two_ends_ask_one(self):
        made = house()
        made.ask("ada", "bank", 1, {"who": "x", "sum": 1})
        made.ask("dan", "bank", 1, {"who": "x", "sum": 2})
        made.carry(2)
        made.carry(1)
        made.settle()
        self.assertEqual((made.told("ada1"), made.told("dan1")), (("done", {"left": 3}), ("done", {"left": 2})))
        self.assertEqual([row[4] for row in made.ledger()], ["dan", "ada"])

    def test_refusals(self):
        made = house()
        for thing in any_things() + STRANGERS:
            self.refused(made, NoName, thing, "work", thing)
        self.refused(made, NoWork, "ada", "work", "ada")
        made.fall("ada")
        self.refused(made, Down, "ada", "work", "ada")
        made.rise("ada")
        made.ask("ada", "bank", 1, VALUE)
        self.refused(made, NoWork, "bob", "work", "bob")
        made.carry(1)
        self.assertEqual(made.work(end="bob"), "done")

    def test_told_values_are_the_askers_own(self):
        made = House((ECHO,), (("ada", "echo", (("echo", 1),)), ("bob", None, (("echo", 1),))))
        value = {"x": {"n": 1}, "y": ({"n": 2}, {})}
        made.ask("bob", "echo", 1, value)
        made.settle()
        first = made.told("bob1")
        self.assertEqual(first, ("done", value))
        first[1]["y"][0]["n"] = 7
        first[1]["x"].clear()
        first[1]["z"] = 1
        self.assertEqual(made.told("bob1"), ("done", {"x": {"n": 1}, "y": ({"n": 2}, {})}))
        self.assertEqual(value, {"x": {"n": 1}, "y": ({"n": 2}, {})})


ECHO = read_face(
    "face echo 1\nrecord r\n 1 n whole may\nrecord s\n 1 x record r may\n 2 y list record r may\n"
    "call 1 say s s\n copy x x\n copy y y"
)


class TickTest(HouseTest):
    def numbers(self, made):
        return [letter.number for letter in made.net()]

    def test_the_clock(self):
        made = house()
        self.assertEqual([made.tick(), made.tick(), made.clock(), made.tick()], [1, 2, 2, 3])

    def test_each_of_the_waits(self):
        for waits in ((1, 2, 4, 8), (1,), (3,), (2, 2), (100,), (1,) * 8, (5, 1, 3)):
            made = house(waits=waits)
            made.tick()
            made.ask("ada", "bank", 1, VALUE)
            sent = 1
            due = []
            at = 1
            for wait in waits:
                at += wait
                due.append(at)
            for tick in range(2, due[-1] + 3):
                made.tick()
                if tick in due[:-1]:
                    sent += 1
                self.assertEqual(len(made.net()), sent, (waits, tick))
                is_open = tick < due[-1]
                self.assertEqual(made.told("ada1"), ("open",) if is_open else ("late",), (waits, tick))
                self.assertEqual(made.open_asks("ada"), ["ada1"] if is_open else [])
            self.assertEqual(self.numbers(made), list(range(1, sent + 1)))
            self.assertEqual({plain(letter)[1:] for letter in made.net()}, {plain(made.net()[0])[1:]})

    def test_waits_where_nothing_is_handed_in(self):
        made = house()
        made.ask("ada", "bank", 1, VALUE)
        counts = []
        for _ in range(16):
            made.tick()
            counts.append(len(made.net()))
        self.assertEqual(counts, [2, 2, 3, 3, 3, 3, 4, 4, 4, 4, 4, 4, 4, 4, 4, 4])
        self.assertEqual(made.told("ada1"), ("late",))

    def test_ends_rise_and_asks_go_as_they_were_opened(self):
        made = house()
        for end in ("eve", "ada", "eve", "ada"):
            made.ask(end, "post" if end == "eve" else "bank", 2, VALUE)
        made.tick()
        self.assertEqual([letter.key for letter in made.net()], ["eve1", "ada1", "eve2", "ada2", "ada1", "ada2", "eve1", "eve2"])

    def test_an_answered_ask_is_not_sent_again(self):
        made = house()
        made.ask("ada", "bank", 1, VALUE)
        made.settle()
        for _ in range(20):
            made.tick()
        self.assertEqual((made.net(), made.told("ada1")), ([], ("done", {"left": 5})))

    def test_an_end_that_is_down_sends_nothing(self):
        made = house()
        made.ask("ada", "bank", 1, VALUE)
        made.fall("ada")
        made.tick()
        self.assertEqual(self.numbers(made), [1])
        made.rise("ada")
        for _ in range(20):
            made.tick()
        self.assertEqual((self.numbers(made), made.told("ada1")), ([1], ("lost",)))

    def test_sent_again_till_it_is_answered(self):
        made = house()
        made.ask("ada", "bank", 1, VALUE)
        made.lose(1)
        made.tick()
        made.lose(2)
        made.tick()
        self.assertEqual(made.net(), [])
        made.tick()
        self.assertEqual(self.numbers(made), [3])
        made.settle()
        self.assertEqual(made.told("ada1"), ("done", {"left": 5}))
        self.assertEqual(made.ledger()[0][0], 3)

    def test_late_stays_late(self):
        made = house(waits=(1,))
        made.ask("ada", "bank", 1, VALUE)
        made.carry(1)
        made.work("bob")
        made.tick()
        self.assertEqual(made.told("ada1"), ("late",))
        made.carry(2)
        self.assertEqual(made.work("ada"), "old")
        self.assertEqual((made.told("ada1"), made.store("bob")), (("late",), {"ada": 5}))
        made.fall("ada")
        self.assertEqual(made.told("ada1"), ("late",))

    def test_a_work_given_up(self):
        made = house(waits=(2, 1))
        made.ask("ada", "bank", 1, {"who": "x", "sum": 9})
        made.settle()
        made.ask("ada", "bank", 3, {"who": "x", "sum": 4})
        made.carry(3)
        made.tick()
        self.assertEqual(made.work("bob"), "asked")
        made.lose(4)
        made.tick()
        self.assertEqual((made.works("bob"), self.numbers(made)), (["ada2"], [5]))
        made.tick()
        # The hand's ask is given up at the third tick; what the work asked is sent again then, and given up behind.
        self.assertEqual((made.told("ada2"), made.works("bob"), self.numbers(made)), (("late",), ["ada2"], [5, 6]))
        made.tick()
        self.assertEqual((made.works("bob"), made.open_asks("bob")), ([], []))
        self.assertEqual(len(made.ledger()), 1)
        # Begun anew by a letter that comes late, under the same keys.
        self.assertEqual(made.carry(5), "queued")
        self.assertEqual(made.work("bob"), "asked")
        self.assertEqual((made.works("bob"), made.open_asks("bob")), (["ada2"], ["ada2.post1"]))
        made.settle()
        self.assertEqual([row[3] for row in made.ledger()], ["ada1", "ada2.post1", "ada2"])
        self.assertEqual((made.store("cyd"), made.store("bob"), made.told("ada2")), ({"x": 4}, {"x": 5}, ("late",)))

    def test_an_answer_of_a_work_given_up_is_old(self):
        made = house(waits=(1,))
        made.ask("ada", "bank", 1, {"who": "x", "sum": 9})
        made.settle()
        made.ask("ada", "bank", 3, {"who": "x", "sum": 4})
        made.carry(3)
        made.work("bob")
        made.carry(4)
        made.work("cyd")
        made.tick()
        self.assertEqual((made.works("bob"), made.open_asks("bob")), ([], []))
        made.carry(5)
        self.assertEqual(made.work("bob"), "old")
        self.assertEqual([row[3] for row in made.ledger()], ["ada1", "ada2.post1"])

    def test_other_works_stay(self):
        made = house(waits=(2,))
        made.ask("ada", "bank", 1, {"who": "x", "sum": 9})
        made.settle()
        made.ask("ada", "bank", 3, {"who": "x", "sum": 1})
        made.carry(3)
        made.work("bob")
        made.tick()
        made.ask("ada", "bank", 3, {"who": "x", "sum": 1})
        number = made.net()[-1].number
        made.carry(number)
        made.work("bob")
        self.assertEqual(made.works("bob"), ["ada2", "ada3"])
        made.tick()
        self.assertEqual((made.works("bob"), made.open_asks("bob")), (["ada3"], ["ada3.post1"]))
        self.assertEqual((made.told("ada2"), made.told("ada3")), (("late",), ("open",)))


class FallTest(HouseTest):
    def test_what_is_forgotten_and_what_stays(self):
        made = house()
        made.ask("ada", "bank", 1, {"who": "x", "sum": 9})
        made.settle()
        made.ask("ada", "bank", 3, {"who": "x", "sum": 4})
        made.ask("bob", "post", 2, {"who": "x", "sum": 4})
        made.carry(3)
        made.work("bob")
        made.ask("ada", "bank", 2, {"who": "x", "sum": 1})
        made.carry(made.net()[-1].number)
        self.assertEqual((len(made.queue("bob")), made.works("bob"), made.open_asks("bob")), (1, ["ada2"], ["bob1", "ada2.post1"]))
        ledger, store, net = made.ledger(), made.store("bob"), made.net()
        self.assertIsNone(made.fall("bob"))
        self.assertIs(made.is_up("bob"), False)
        self.assertEqual((made.queue("bob"), made.works("bob"), made.open_asks("bob")), ([], [], []))
        self.assertEqual((made.ledger(), made.store("bob"), made.net(), made.speaks("bob")), (ledger, store, net, BOB_SPEAKS))
        self.assertEqual([made.told(key) for key in ("ada1", "ada2", "ada3", "bob1")], [("done", {"left": 9}), ("open",), ("open",), ("lost",)])
        self.assertIsNone(made.rise("bob"))
        self.assertIs(made.is_up("bob"), True)
        self.assertEqual((made.queue("bob"), made.works("bob"), made.open_asks("bob")), ([], [], []))
        self.assertEqual(made.ask("bob", "post", 2, {"who": "x", "sum": 4}), "bob2")

    def test_what_was_done_is_done_once_through_falls(self):
        made = house()
        made.ask("ada", "bank", 1, VALUE)
        made.double(1)
        made.carry(1)
        made.work("bob")
        made.lose(3)
        made.fall("bob")
        made.rise("bob")
        made.carry(2)
        self.assertEqual(made.work("bob"), "again")
        made.settle()
        self.assertEqual((made.store("bob"), len(made.ledger()), made.told("ada1")), ({"ada": 5}, 1, ("done", {"left": 5})))

    def test_a_work_begun_anew_takes_the_same_answer(self):
        made = house()
        made.ask("ada", "bank", 1, {"who": "x", "sum": 9})
        made.settle()
        made.ask("ada", "bank", 3, {"who": "x", "sum": 4})
        made.double(3)
        made.carry(3)
        made.work("bob")
        made.carry(made.net()[-1].number)
        made.work("cyd")
        made.fall("bob")
        made.rise("bob")
        made.carry(4)
        self.assertEqual(made.work("bob"), "asked")
        self.assertEqual(made.open_asks("bob"), ["ada2.post1"])
        made.settle()
        self.assertEqual((made.store("cyd"), made.store("bob")), ({"x": 4}, {"x": 5}))
        self.assertEqual([row[3] for row in made.ledger()], ["ada1", "ada2.post1", "ada2"])

    def test_refusals(self):
        made = house()
        for thing in any_things() + STRANGERS:
            for deed in ("fall", "rise"):
                self.refused(made, NoName, thing, deed, thing)
        self.refused(made, Up, "ada", "rise", "ada")
        made.fall(end="ada")
        self.refused(made, Down, "ada", "fall", "ada")
        made.rise(end="ada")
        self.refused(made, Up, "ada", "rise", "ada")

    def test_others_stay_up(self):
        made = house()
        made.fall("bob")
        self.assertEqual([made.is_up(end) for end, _, _ in ENDS], [True, False, True, True, True])


class SettleTest(HouseTest):
    def test_nothing_to_do(self):
        self.assertEqual(house().settle(), 0)

    def test_it_tells_how_many_were_carried(self):
        made = house()
        made.ask("ada", "bank", 1, VALUE)
        self.assertEqual(made.settle(), 2)
        made.ask("ada", "shop", 2, {"who": "ada", "sum": 1})
        self.assertEqual(made.settle(), 6)
        self.assertEqual((made.net(), made.told("ada2")), ([], ("done", {"left": 4})))

    def test_lost_ones_count_too(self):
        made = house()
        made.ask("ada", "bank", 1, VALUE)
        made.ask("eve", "post", 1, VALUE)
        made.fall("bob")
        self.assertEqual(made.settle(), 3)
        self.assertEqual((made.told("ada1"), made.told("eve1")), (("open",), ("done", {"mark": 5})))

    def test_queues_are_worked_off_first(self):
        made = house()
        for many in (1, 2):
            made.ask("ada", "bank", 1, {"who": "x", "sum": many})
        made.carry(2)
        # The letter in the queue is worked ahead of the one in the net, and isn't carried any more.
        self.assertEqual(made.settle(), 3)
        self.assertEqual([row[3] for row in made.ledger()], ["ada2", "ada1"])

    def test_the_least_number_is_carried_first(self):
        made = house()
        for many in (1, 2, 3):
            made.ask("ada", "bank", 1, {"who": "x", "sum": many})
        made.double(1)
        made.settle()
        self.assertEqual([row[3] for row in made.ledger()], ["ada1", "ada2", "ada3"])
        self.assertEqual(made.ask("ada", "bank", 1, VALUE), "ada4")
        # Three asks, a double, their answers, one of them twice.
        self.assertEqual(made.net()[0].number, 9)

    def test_ends_work_rising(self):
        made = house(room=1)
        made.ask("eve", "post", 2, VALUE)
        made.ask("ada", "bank", 1, VALUE)
        made.carry(1)
        made.carry(2)
        self.assertEqual(made.settle(), 2)
        self.assertEqual([row[1] for row in made.ledger()], ["bob", "cyd"])

    def test_a_small_room(self):
        made = house(room=1)
        for _ in range(3):
            made.ask("ada", "bank", 1, VALUE)
        self.assertEqual(made.settle(), 6)
        self.assertEqual(made.store("bob"), {"ada": 15})
        made.ask("ada", "bank", 1, VALUE)
        made.ask("ada", "bank", 1, VALUE)
        self.assertEqual((made.carry(7), made.carry(8)), ("queued", "lost"))
        self.assertEqual(made.settle(), 1)
        self.assertEqual((made.told("ada4")[0], made.told("ada5")), ("done", ("open",)))

    def test_what_is_carried_to_those_that_are_down(self):
        made = house()
        made.ask("ada", "bank", 1, VALUE)
        made.carry(1)
        made.fall("ada")
        self.assertEqual(made.settle(), 1)
        self.assertEqual((made.told("ada1"), made.store("bob")), (("lost",), {"ada": 5}))


class QuestionsTest(HouseTest):
    def test_refusals(self):
        made = house()
        for thing in any_things() + STRANGERS:
            for question in ("is_up", "store", "queue", "open_asks", "works", "speaks"):
                self.refused(made, NoName, thing, question, thing)
        made.ask("ada", "bank", 1, VALUE)
        for thing in any_things() + ["", "ada", "ada0", "ada2", "ada01", "bob1", "ada1.bank1", "Ada1", 1]:
            self.refused(made, NoKey, thing, "told", thing)

    def test_questions_of_ends_that_are_down(self):
        made = house()
        made.fall("bob")
        self.assertEqual((made.store("bob"), made.queue("bob"), made.open_asks("bob"), made.works("bob")), ({}, [], [], []))
        self.assertEqual(made.speaks("bob"), BOB_SPEAKS)

    def test_by_name(self):
        made = house()
        made.ask("ada", "bank", 1, VALUE)
        self.assertEqual(made.told(key="ada1"), ("open",))
        self.assertIs(made.is_up(end="ada"), True)
        self.assertEqual((made.store(end="ada"), made.queue(end="ada"), made.open_asks(end="ada")), ({}, [], ["ada1"]))
        self.assertEqual((made.works(end="ada"), made.speaks(end="ada")), ([], ENDS[0][2]))

    def test_two_houses_share_nothing(self):
        faces = book()
        one, other = House(faces, ENDS), House(faces, ENDS)
        before = seen(other)
        one.ask("ada", "bank", 1, VALUE)
        one.settle()
        one.tick()
        one.fall("cyd")
        self.assertEqual(seen(other), before)

    def test_stores_and_ledgers_are_the_askers_own(self):
        made = house()
        made.ask("ada", "bank", 1, VALUE)
        made.settle()
        store, ledger = made.store("bob"), made.ledger()
        store["ada"] = 99
        store["more"] = 1
        ledger.append("row")
        made.store("bob").clear()
        self.assertEqual(made.store("bob"), {"ada": 5})
        self.assertEqual(len(made.ledger()), 1)
        made.ask("ada", "bank", 2, VALUE)
        made.settle()
        self.assertEqual((store, len(ledger), made.store("bob")), ({"ada": 99, "more": 1}, 2, {}))
        ledger = made.ledger()
        ledger.clear()
        self.assertEqual(len(made.ledger()), 2)

    def test_rows_in_order_with_all_their_parts(self):
        made = house()
        made.tick()
        made.ask("eve", "post", 1, {"who": "y", "sum": 300})
        made.ask("ada", "bank", 2, {"who": "y", "sum": 1})
        made.carry(2)
        made.work("bob")
        made.tick()
        made.carry(1)
        made.work("cyd")
        made.settle()
        self.assertEqual(made.ledger(), [
            (1, "bob", "bank", "ada1", "ada", BOB_SPEAKS, 2, (1, 2, 1, 121, 2, 1, 1, 1), ("fault", "poor")),
            (2, "cyd", "post", "eve1", "eve", (("post", 1),), 1, (1, 2, 1, 121, 2, 1, 2, 1, 44), ("done", (1, 1, 2, 1, 44))),
        ])
        for row in made.ledger():
            self.assertIs(type(row), tuple)


if __name__ == "__main__":
    unittest.main()
