"""Points 2, 3 and 29: ends rolled to other editions, and each reason why one isn't."""

import unittest

from facehouse.errors import NoName, NoRoll
from facehouse.facetexts import read_face
from facehouse.house import House
from tests.plays import plain
from tests.samples import any_things


def bank(edition, *, ask=(), answer=(), calls=(1,), deeds=(), names="abcdefgh"):
    """An edition of bank: rows of more fields behind 1 of ask and answer, and like calls of these numbers."""
    rows = [f"face bank {edition}", "record give", " 1 left whole must", *answer, "record want", " 1 who text must", " 2 sum whole must", *ask]
    for number in calls:
        rows += [f"call {number} {names[number - 1]} want give", " add who sum", *deeds, " tell left who"]
    return read_face("\n".join(rows))


def asking(edition, call="a", *, name="shop", to="bank", more=(), calls=1, extra=(), answer=()):
    """An edition of shop, whose call b asks a call of bank; more rows of its ask, extra deeds ahead of the ask."""
    rows = [f"face {name} {edition}", "record give", " 1 left whole must", *answer, "record want", " 1 who text must", " 2 sum whole must", *more]
    for number in range(1, calls + 1):
        rows += [f"call {number} {'bcd'[number - 1]} want give", *extra, f" ask {to} {call}", " get left left"]
    return read_face("\n".join(rows))


VALUE = {"who": "x", "sum": 1}
MAY, MUST = " 3 note text may", " 3 note text must"
# An answer with a must field that is copied of the ask.
NOTED = dict(ask=(MUST,), answer=(MUST,), deeds=(" copy note note",))


class RollTest(unittest.TestCase):
    def refused(self, made, why, end, face, edition):
        before = self.seen(made)
        with self.assertRaises(NoRoll) as caught:
            made.roll(end, face, edition)
        self.assertEqual(caught.exception.why, why)
        self.assertIs(type(caught.exception.why), tuple)
        self.assertEqual(self.seen(made), before)

    def seen(self, made):
        ends = [end for end in ("ada", "bob", "cyd", "dan", "eve") if self.is_there(made, end)]
        return repr([
            (made.is_up(end), made.store(end), [plain(one) for one in made.queue(end)], made.open_asks(end), made.works(end), made.speaks(end))
            for end in ends
        ] + [[plain(one) for one in made.net()], made.clock(), made.ledger()])

    def is_there(self, made, end):
        try:
            made.is_up(end)
        except NoName:
            return False
        return True

    def pair(self, *faces, ada=1, bob=1, **more):
        """A house of a bank's editions, asked by ada and served by bob."""
        return House(faces, (("ada", None, (("bank", ada),)), ("bob", "bank", (("bank", bob),))), **more)

    def three(self, *faces, ada=1, bob=1, cyd=1, shop=1, **more):
        """A house where ada asks the shop of bob, and bob the bank of cyd."""
        ends = (("ada", None, (("shop", ada),)), ("bob", "shop", (("bank", bob), ("shop", shop))), ("cyd", "bank", (("bank", cyd),)))
        return House(faces, ends, **more)


class LetTest(RollTest):
    def test_rolled(self):
        made = self.pair(bank(1), bank(2))
        self.assertIsNone(made.roll("ada", "bank", 2))
        self.assertEqual((made.speaks("ada"), made.speaks("bob")), ((("bank", 2),), (("bank", 1),)))
        self.assertIsNone(made.roll(edition=2, face="bank", end="bob"))
        self.assertEqual(made.speaks("bob"), (("bank", 2),))

    def test_the_same_edition(self):
        made = self.pair(bank(1), bank(2))
        made.ask("ada", "bank", 1, VALUE)
        self.assertIsNone(made.roll("ada", "bank", 1))
        self.assertIsNone(made.roll("bob", "bank", 1))
        self.assertEqual(made.speaks("ada"), (("bank", 1),))

    def test_ends_that_are_down(self):
        made = self.pair(bank(1), bank(2))
        made.fall("ada")
        made.fall("bob")
        made.roll("ada", "bank", 2)
        made.roll("bob", "bank", 2)
        self.assertEqual((made.speaks("ada"), made.speaks("bob"), made.is_up("ada")), ((("bank", 2),), (("bank", 2),), False))
        made.rise("ada")
        made.rise("bob")
        made.ask("ada", "bank", 1, VALUE)
        made.settle()
        self.assertEqual(made.told("ada1"), ("done", {"left": 1}))
        self.assertEqual(made.ledger()[0][5], (("bank", 2),))

    def test_what_is_in_the_head_stays(self):
        made = self.three(asking(1), asking(2), bank(1), bank(2))
        made.ask("ada", "shop", 1, VALUE)
        made.ask("ada", "shop", 1, VALUE)
        made.carry(1)
        made.work("bob")
        made.carry(2)
        before = made.queue("bob"), made.open_asks("bob"), made.works("bob"), made.net()
        made.roll("bob", "shop", 2)
        made.roll("bob", "bank", 2)
        self.assertEqual((made.queue("bob"), made.open_asks("bob"), made.works("bob"), made.net()), before)
        self.assertEqual(made.speaks("bob"), (("bank", 2), ("shop", 2)))
        made.settle()
        self.assertEqual((made.told("ada1"), made.told("ada2")), (("done", {"left": 1}), ("done", {"left": 2})))
        self.assertEqual({row[5] for row in made.ledger() if row[1] == "bob"}, {(("bank", 2), ("shop", 2))})

    def test_letters_keep_the_edition_by_which_they_were_written(self):
        made = self.pair(bank(1), bank(2), bank(3))
        made.ask("ada", "bank", 1, VALUE)
        made.roll("ada", "bank", 2)
        made.tick()
        self.assertEqual([letter.edition for letter in made.net()], [1, 1])
        made.roll("bob", "bank", 3)
        made.carry(1)
        made.work("bob")
        made.roll("bob", "bank", 1)
        made.carry(2)
        self.assertEqual(made.work("bob"), "again")
        self.assertEqual([(letter.way, letter.edition) for letter in made.net()], [("answer", 3), ("answer", 3)])
        made.settle()
        made.ask("ada", "bank", 1, VALUE)
        self.assertEqual(made.net()[0].edition, 2)

    def test_faults_keep_the_edition_served_then(self):
        thin = bank(1, calls=(1,), deeds=(" take who sum poor", " take who sum poor"))
        made = self.pair(thin, bank(2))
        made.ask("ada", "bank", 1, VALUE)
        made.carry(1)
        self.assertEqual(made.work("bob"), "fault")
        made.double(2)
        made.roll("bob", "bank", 2)
        made.tick()
        made.carry(4)
        self.assertEqual(made.work("bob"), "again")
        self.assertEqual([(letter.way, letter.edition, letter.call) for letter in made.net()], [("fault", 1, 1)] * 3)

    def test_an_answer_is_read_by_the_edition_spoken_then(self):
        named = read_face("face bank 2\nrecord give\n 1 rest whole must\nrecord want\n 1 who text must\n 2 sum whole must\n"
                          "call 1 a want give\n add who sum\n tell rest who")
        made = self.pair(bank(1), named)
        made.ask("ada", "bank", 1, VALUE)
        made.ask("ada", "bank", 1, VALUE)
        made.carry(1)
        made.settle()
        self.assertEqual(made.told("ada1"), ("done", {"left": 1}))
        made.ask("ada", "bank", 1, VALUE)
        made.roll("ada", "bank", 2)
        made.settle()
        self.assertEqual(made.told("ada3"), ("done", {"rest": 3}))
        # What was told stays as it was read then.
        self.assertEqual(made.told("ada1"), ("done", {"left": 1}))

    def test_by_the_text_of_the_edition_that_serves(self):
        double = bank(2, deeds=(" add who sum",))
        made = self.pair(bank(1), double)
        made.ask("ada", "bank", 1, VALUE)
        made.roll("bob", "bank", 2)
        made.settle()
        self.assertEqual(made.told("ada1"), ("done", {"left": 2}))
        made.roll("bob", "bank", 1)
        made.ask("ada", "bank", 1, VALUE)
        made.settle()
        self.assertEqual(made.told("ada2"), ("done", {"left": 3}))

    def test_another_number_has_another_key(self):
        # Edition 2 has the call a under the number 2: what bob asked before is asked again under another key.
        other = bank(2, calls=(1, 2), names="xabcde")
        server = bank(3, calls=(1, 2), names="xabcde")
        made = self.three(asking(1), bank(1), other, server, cyd=3)
        made.ask("ada", "shop", 1, VALUE)
        made.carry(1)
        made.work("bob")
        self.assertEqual(made.open_asks("bob"), ["ada1.bank1"])
        made.carry(2)
        made.work("cyd")
        made.roll("bob", "bank", 2)
        made.carry(3)
        self.assertEqual(made.work("bob"), "asked")
        self.assertEqual(made.open_asks("bob"), ["ada1.bank2"])
        made.settle()
        self.assertEqual([row[3] for row in made.ledger()], ["ada1.bank1", "ada1.bank2", "ada1"])
        self.assertEqual((made.told("ada1"), made.store("cyd")), (("done", {"left": 2}), {"x": 2}))


class ReasonsTest(RollTest):
    def test_no_name_comes_first(self):
        made = self.pair(bank(1))
        for thing in any_things() + ["", "zed", "bank", 1]:
            before = self.seen(made)
            with self.assertRaises(NoName) as caught:
                made.roll(thing, thing, thing)
            self.assertIs(caught.exception.name, thing)
            self.assertEqual(self.seen(made), before)

    def test_edition(self):
        made = self.pair(bank(1), bank(2), asking(1))
        for thing in any_things() + ["", "ban", "ada", 1]:
            self.refused(made, ("edition",), "ada", thing, 1)
            self.refused(made, ("edition",), "ada", thing, thing)
        for thing in any_things() + [0, 3, -1, "1", 10**29]:
            self.refused(made, ("edition",), "ada", "bank", thing)
        # The book has it, but the end doesn't speak it.
        self.refused(made, ("edition",), "ada", "shop", 1)
        made.roll("ada", "bank", 2)

    def test_among(self):
        need = bank(2, ask=(MUST,))
        made = self.three(asking(1), asking(2, more=(MUST,)), asking(3, "zed"), bank(1), need)
        # What bob serves asks without a note.
        self.refused(made, ("among",), "bob", "bank", 2)
        self.refused(made, ("among",), "bob", "shop", 3)
        made.roll("ada", "shop", 2)
        made.roll("bob", "shop", 2)
        made.roll("bob", "bank", 2)
        self.refused(made, ("among",), "bob", "shop", 1)
        self.refused(made, ("among",), "bob", "shop", 3)

    def test_another_ends_asking_is_not_looked_at(self):
        # An end that serves nothing has nothing that may not ask.
        made = House((asking(1), bank(1), bank(2, calls=(1, 2))),
                     (("ada", None, (("bank", 1),)), ("bob", "shop", (("bank", 1), ("shop", 1))), ("cyd", "bank", (("bank", 2),))))
        made.roll("ada", "bank", 2)

    def test_ring(self):
        shop_asks, shop_quiet = asking(1), bank_like("shop", 2)
        bank_quiet, bank_asks = bank(1), asking_back(2)
        ends = (("ada", "shop", (("bank", 1), ("shop", 1))), ("bob", "bank", (("bank", 1), ("shop", 1))))
        made = House((shop_asks, shop_quiet, bank_quiet, bank_asks), ends)
        self.refused(made, ("ring", "bank"), "bob", "bank", 2)
        made.roll("ada", "shop", 2)
        made.roll("bob", "bank", 2)
        self.refused(made, ("ring", "bank"), "ada", "shop", 1)
        made.roll("bob", "bank", 1)
        made.roll("ada", "shop", 1)

    def test_among_comes_ahead_of_ring(self):
        faces = (asking(1), bank(1), asking_back(2), asking_back(3, "zed"))
        ends = (("ada", "shop", (("bank", 1), ("shop", 1))), ("bob", "bank", (("bank", 1), ("shop", 1))))
        made = House(faces, ends)
        self.refused(made, ("among",), "bob", "bank", 3)
        self.refused(made, ("ring", "bank"), "bob", "bank", 2)

    def test_ring_comes_ahead_of_talk(self):
        faces = (asking(1), bank(1), asking_back(2, more=(MUST,)))
        ends = (("ada", "shop", (("bank", 1), ("shop", 1))), ("bob", "bank", (("bank", 1), ("shop", 1))))
        self.refused(House(faces, ends), ("ring", "bank"), "bob", "bank", 2)

    def test_talk_as_server_and_as_asker(self):
        faces = (bank(1), bank(2, ask=(MUST,)), bank(3, calls=(1, 2)))
        ends = (("ada", None, (("bank", 1),)), ("bob", None, (("bank", 2),)), ("cyd", "bank", (("bank", 1),)), ("dan", None, (("bank", 1),)))
        made = House(faces, ends)
        self.refused(made, ("talk", "ada"), "cyd", "bank", 2)
        self.refused(made, ("talk", "cyd"), "ada", "bank", 3)
        made.roll("ada", "bank", 2)
        self.refused(made, ("talk", "dan"), "cyd", "bank", 2)
        made.roll("dan", "bank", 2)
        made.roll("cyd", "bank", 2)
        self.refused(made, ("talk", "cyd"), "ada", "bank", 1)
        self.assertEqual(made.speaks("ada"), (("bank", 2),))

    def test_talk_comes_ahead_of_letters(self):
        faces = (bank(1), bank(2, ask=(MUST,)))
        made = self.pair(*faces)
        made.ask("ada", "bank", 1, VALUE)
        self.refused(made, ("talk", "ada"), "bob", "bank", 2)

    def test_among_comes_ahead_of_talk(self):
        made = self.three(asking(1), bank(1), bank(2, ask=(MUST,), calls=(1, 2)))
        self.refused(made, ("among",), "bob", "bank", 2)


def bank_like(name, edition):
    rows = f"face {name} {edition}\nrecord give\n 1 left whole must\nrecord want\n 1 who text must\n 2 sum whole must\n"
    return read_face(rows + "call 1 b want give\n tell left who")


def asking_back(edition, call="b", more=()):
    """An edition of bank, whose call a asks the shop."""
    rows = [f"face bank {edition}", "record give", " 1 left whole must", "record want", " 1 who text must", " 2 sum whole must", *more]
    return read_face("\n".join(rows + ["call 1 a want give", f" ask shop {call}", " get left left"]))


class LettersTest(RollTest):
    """bank 1 asks without a note, bank 2 with one; bank 3 may have one and so reads both."""

    def note_house(self, ada=1, bob=3):
        return self.pair(bank(1), bank(2, ask=(MUST,)), bank(3, ask=(MAY,)), ada=ada, bob=bob)

    def test_an_ask_in_the_net(self):
        made = self.note_house()
        made.ask("ada", "bank", 1, VALUE)
        made.roll("ada", "bank", 2)
        self.refused(made, ("letter", 1), "bob", "bank", 2)
        made.lose(1)
        # Still open under ada1, and sent again some day.
        self.refused(made, ("key", "ada1"), "bob", "bank", 2)

    def test_the_least_letter(self):
        made = self.note_house()
        made.roll("ada", "bank", 2)
        made.ask("ada", "bank", 1, {**VALUE, "note": "n"})
        made.roll("ada", "bank", 1)
        for _ in range(3):
            made.ask("ada", "bank", 1, VALUE)
        made.roll("ada", "bank", 2)
        self.refused(made, ("letter", 2), "bob", "bank", 2)
        made.lose(2)
        self.refused(made, ("letter", 3), "bob", "bank", 2)

    def test_an_ask_in_the_queue(self):
        made = self.note_house()
        made.ask("ada", "bank", 1, VALUE)
        made.ask("ada", "bank", 1, VALUE)
        made.roll("ada", "bank", 2)
        made.carry(1)
        self.refused(made, ("letter", 1), "bob", "bank", 2)
        made.carry(2)
        self.refused(made, ("letter", 1), "bob", "bank", 2)
        made.fall("bob")
        self.refused(made, ("key", "ada1"), "bob", "bank", 2)
        made.fall("ada")
        made.roll("bob", "bank", 2)

    def test_a_queue_in_another_order(self):
        made = self.note_house()
        made.ask("ada", "bank", 1, VALUE)
        made.ask("ada", "bank", 1, VALUE)
        made.roll("ada", "bank", 2)
        made.carry(2)
        made.carry(1)
        self.refused(made, ("letter", 1), "bob", "bank", 2)

    def test_an_ask_of_a_key_that_is_done(self):
        # What is done would be sent again unread; the letter is looked at all the same.
        made = self.note_house()
        made.ask("ada", "bank", 1, VALUE)
        made.double(1)
        made.carry(1)
        made.work("bob")
        made.carry(3)
        made.work("ada")
        made.roll("ada", "bank", 2)
        self.refused(made, ("letter", 2), "bob", "bank", 2)
        made.lose(2)
        made.roll("bob", "bank", 2)

    def test_an_ask_of_a_call_that_is_not_there(self):
        made = self.pair(bank(1, calls=(1, 2)), bank(2), ada=2)
        made.roll("ada", "bank", 1)
        made.ask("ada", "bank", 2, VALUE)
        made.carry(1)
        made.work("bob")
        made.carry(2)
        made.work("ada")
        made.ask("ada", "bank", 2, VALUE)
        made.fall("ada")
        made.roll("ada", "bank", 2)
        self.refused(made, ("letter", 3), "bob", "bank", 2)
        made.lose(3)
        made.roll("bob", "bank", 2)

    def answers(self, ada=1, bob=1):
        """bank 1 answers without a note, bank 2 with one; bank 3 wants none, but may have one."""
        reads_both = bank(3, ask=(MAY,), answer=(MAY,), deeds=(" copy note note",))
        return self.pair(bank(1, ask=(MUST,)), bank(2, **NOTED), reads_both, ada=ada, bob=bob)

    def noted_roll(self, made):
        """Roll both to edition 2, which answers with a note."""
        made.roll("bob", "bank", 2)
        made.roll("ada", "bank", 2)

    def test_an_answer_in_the_net(self):
        made = self.answers()
        made.ask("ada", "bank", 1, {**VALUE, "note": "n"})
        made.carry(1)
        made.work("bob")
        made.roll("bob", "bank", 2)
        self.refused(made, ("letter", 2), "ada", "bank", 2)
        made.double(2)
        made.carry(2)
        self.refused(made, ("letter", 2), "ada", "bank", 2)
        made.work("ada")
        # The other one is old now.
        made.roll("ada", "bank", 2)

    def test_an_answer_that_was_lost_is_in_the_ledger(self):
        made = self.answers()
        made.ask("ada", "bank", 1, {**VALUE, "note": "n"})
        made.carry(1)
        made.work("bob")
        made.lose(2)
        made.roll("bob", "bank", 2)
        self.refused(made, ("key", "ada1"), "ada", "bank", 2)
        made.fall("ada")
        # Nobody waits for it any more.
        made.roll("ada", "bank", 2)

    def test_faults_count_as_read(self):
        poor = dict(ask=(MUST,), deeds=(" take who sum poor", " take who sum poor"))
        noted = dict(ask=(MUST,), answer=(MUST,), deeds=(" take who sum poor", " take who sum poor", " copy note note"))
        made = self.pair(bank(1, **poor), bank(2, **noted))
        made.ask("ada", "bank", 1, {**VALUE, "note": "n"})
        made.carry(1)
        self.assertEqual(made.work("bob"), "fault")
        made.roll("bob", "bank", 2)
        made.roll("ada", "bank", 2)
        made.settle()
        self.assertEqual(made.told("ada1"), ("fault", "poor"))

    def test_letters_of_others_do_not_count(self):
        faces = (bank(1), bank(2, ask=(MUST,)), bank(3, ask=(MAY,)))
        ends = (("ada", None, (("bank", 1),)), ("bob", "bank", (("bank", 3),)), ("cyd", None, (("bank", 2),)))
        made = House(faces, ends)
        made.ask("ada", "bank", 1, VALUE)
        # It is for bob, and doesn't keep cyd.
        made.roll("cyd", "bank", 1)
        made.roll("cyd", "bank", 2)
        made.roll("ada", "bank", 2)

    def test_letters_of_other_faces_do_not_count(self):
        made = self.three(asking(1), asking(2, more=(MAY,)), bank(1), bank(2))
        made.ask("ada", "shop", 1, VALUE)
        made.carry(1)
        made.roll("bob", "bank", 2)
        made.roll("cyd", "bank", 2)
        made.roll("bob", "shop", 2)

    def test_an_answer_whose_call_is_not_there(self):
        made = self.pair(bank(1, calls=(1, 2)), bank(2))
        made.ask("ada", "bank", 2, VALUE)
        made.carry(1)
        made.work("bob")
        self.refused(made, ("letter", 2), "ada", "bank", 2)
        made.lose(2)
        self.refused(made, ("key", "ada1"), "ada", "bank", 2)
        made.fall("ada")
        made.roll("ada", "bank", 2)

    def test_an_open_ask_whose_call_is_not_there(self):
        made = self.pair(bank(1, calls=(1, 2)), bank(2))
        made.ask("ada", "bank", 1, VALUE)
        made.ask("ada", "bank", 2, VALUE)
        self.refused(made, ("key", "ada2"), "ada", "bank", 2)
        made.settle()
        made.roll("ada", "bank", 2)
        self.assertEqual(made.told("ada2"), ("done", {"left": 2}))


class KeysTest(RollTest):
    def note_house(self):
        """Three ends ask bob, who reads asks with a note and without."""
        faces = (bank(1), bank(2, ask=(MUST,)), bank(3, ask=(MAY,)))
        return House(faces, tuple((end, None, (("bank", 1),)) for end in ("ada", "bob", "cyd")) + (("dan", "bank", (("bank", 3),)),))

    def test_open_asks_of_others(self):
        made = self.note_house()
        for end in ("cyd", "ada", "bob"):
            made.ask(end, "bank", 1, VALUE)
            made.roll(end, "bank", 2)
        for number in (1, 2, 3):
            made.lose(number)
        self.refused(made, ("key", "ada1"), "dan", "bank", 2)
        made.fall("ada")
        self.refused(made, ("key", "bob1"), "dan", "bank", 2)
        made.fall("bob")
        self.refused(made, ("key", "cyd1"), "dan", "bank", 2)
        made.fall("cyd")
        made.roll("dan", "bank", 2)

    def test_keys_sort_as_texts(self):
        made = self.pair(bank(1), bank(2, ask=(MUST,)), bank(3, ask=(MAY,)), bob=3)
        for _ in range(10):
            made.ask("ada", "bank", 1, VALUE)
        made.carry(1)
        made.work("bob")
        made.settle()
        made.ask("ada", "bank", 1, VALUE)
        made.ask("ada", "bank", 1, VALUE)
        made.roll("ada", "bank", 2)
        for letter in made.net():
            made.lose(letter.number)
        self.assertEqual(made.open_asks("ada"), ["ada11", "ada12"])
        self.refused(made, ("key", "ada11"), "bob", "bank", 2)
        made = self.pair(bank(1), bank(2, ask=(MUST,)), bank(3, ask=(MAY,)), bob=3)
        for _ in range(10):
            made.ask("ada", "bank", 1, VALUE)
        for letter in made.net():
            if letter.key not in ("ada2", "ada10"):
                made.carry(letter.number)
                made.work("bob")
                answer = [one.number for one in made.net() if one.way == "answer"][0]
                made.carry(answer)
                made.work("ada")
            else:
                made.lose(letter.number)
        self.assertEqual(made.open_asks("ada"), ["ada2", "ada10"])
        made.roll("ada", "bank", 2)
        self.refused(made, ("key", "ada10"), "bob", "bank", 2)

    def shops(self):
        """bob's shop asks cyd's bank; shop 2 wants a note, shop 3 may have one."""
        return self.three(asking(1), asking(2, more=(MUST,)), asking(3, more=(MAY,)), bank(1), shop=3)

    def test_works_that_are_begun(self):
        made = self.shops()
        made.ask("ada", "shop", 1, VALUE)
        made.carry(1)
        self.assertEqual(made.work("bob"), "asked")
        made.fall("ada")
        made.roll("ada", "shop", 2)
        self.refused(made, ("key", "ada1"), "bob", "shop", 2)
        made.settle()
        self.assertEqual(made.works("bob"), [])
        made.roll("bob", "shop", 2)

    def test_works_of_a_call_that_is_not_there(self):
        made = self.three(asking(1, calls=2), asking(2), bank(1))
        made.ask("ada", "shop", 2, VALUE)
        made.carry(1)
        made.work("bob")
        made.fall("ada")
        made.roll("ada", "shop", 2)
        self.refused(made, ("key", "ada1"), "bob", "shop", 2)
        made.fall("bob")
        made.roll("bob", "shop", 2)

    def kept(self, **more):
        """bob keeps an answer of cyd's bank 1 under ada1.bank1, and waits for one of dan's post."""
        shop = read_face(
            "face shop 1\nrecord give\n 1 left whole must\nrecord want\n 1 who text must\n 2 sum whole must\n 3 note text must\n"
            "call 1 b want give\n ask bank a\n ask post a\n get left left"
        )
        post = read_face("face post 1\nrecord give\n 1 left whole must\nrecord want\n 1 who text must\ncall 1 a want give\n tell left who")
        faces = (shop, post, bank(1, ask=(MUST,)), bank(2, **NOTED), bank(3, calls=(2,), names="xa", **NOTED), bank(4, calls=(1, 2), names="xa", **NOTED))
        speaks = (("bank", 1), ("post", 1), ("shop", 1))
        ends = (("ada", None, (("shop", 1),)), ("bob", "shop", speaks), ("cyd", "bank", (("bank", 1),)), ("dan", "post", (("post", 1),)))
        made = House(faces, ends, **more)
        made.ask("ada", "shop", 1, {**VALUE, "note": "n"})
        made.carry(1)
        made.work("bob")
        made.carry(2)
        made.work("cyd")
        made.carry(3)
        self.assertEqual(made.work("bob"), "asked")
        self.assertEqual(made.open_asks("bob"), ["ada1.post1"])
        return made

    def test_answers_that_works_keep(self):
        made = self.kept()
        made.roll("cyd", "bank", 2)
        self.refused(made, ("key", "ada1.bank1"), "bob", "bank", 2)
        made.settle()
        # Once ada1 is done the key isn't live.
        made.roll("bob", "bank", 2)

    def test_live_keys_that_were_forgotten(self):
        made = self.kept()
        made.roll("cyd", "bank", 2)
        made.fall("bob")
        # bob might be asked for ada1 again, and ask so again; the ledger's answer is without a note.
        self.refused(made, ("key", "ada1.bank1"), "bob", "bank", 2)
        made.rise("bob")
        made.tick()
        made.settle()
        self.assertEqual(made.told("ada1")[0], "done")
        made.roll("bob", "bank", 2)

    def test_answers_under_a_live_key_that_is_not_open_count_as_read_without_the_call(self):
        made = self.kept()
        made.roll("cyd", "bank", 4)
        # Kept, and in the ledger, of the call 1, which bank 3 hasn't.
        made.roll("bob", "bank", 3)
        self.refused(made, ("key", "ada1.bank1"), "bob", "bank", 2)
        made.double(4)
        made.settle()
        # It was asked again, by the number 2, and answered.
        self.assertEqual([row[3] for row in made.ledger()], ["ada1.bank1", "ada1.post1", "ada1.bank2", "ada1"])

    def test_a_letter_under_a_live_key_that_is_not_open(self):
        made = self.kept()
        made.ask("ada", "shop", 1, {**VALUE, "note": "n"})
        number = made.net()[-1].number
        made.carry(number)
        made.work("bob")
        number = made.net()[-1].number
        made.carry(number)
        made.work("cyd")
        number = made.net()[-1].number
        made.fall("bob")
        made.roll("cyd", "bank", 4)
        self.refused(made, ("letter", number), "bob", "bank", 2)
        # Without the call 1 it counts as read, too.
        made.roll("bob", "bank", 3)

    def test_an_open_key_without_the_call(self):
        made = self.three(asking(1), bank(1), bank(2, calls=(2,), names="xa"), bank(3, calls=(1, 2), names="xa"), cyd=3)
        made.ask("ada", "shop", 1, VALUE)
        made.carry(1)
        made.work("bob")
        self.refused(made, ("key", "ada1.bank1"), "bob", "bank", 2)
        made.carry(2)
        made.work("cyd")
        self.refused(made, ("letter", 3), "bob", "bank", 2)
        made.lose(3)
        self.refused(made, ("key", "ada1.bank1"), "bob", "bank", 2)
        made.fall("bob")
        made.roll("bob", "bank", 2)

    def test_keys_that_another_end_asked(self):
        faces = (bank(1, ask=(MUST,)), bank(2, **NOTED))
        ends = (("ada", None, (("bank", 1),)), ("bob", "bank", (("bank", 1),)), ("cyd", None, (("bank", 1),)))
        made = House(faces, ends)
        made.ask("ada", "bank", 1, {**VALUE, "note": "n"})
        made.carry(1)
        made.work("bob")
        made.lose(2)
        made.roll("bob", "bank", 2)
        made.roll("cyd", "bank", 2)
        self.refused(made, ("key", "ada1"), "ada", "bank", 2)

    def test_kept_faults_count_as_read(self):
        # shop 2 asks the post first, so a fault of the bank that came is kept, and not taken yet.
        rows = "record give\n 1 left whole must\nrecord want\n 1 who text must\n 2 sum whole must\n 3 note text must\ncall 1 b want give\n"
        first = read_face(f"face shop 1\n{rows} ask bank a\n get left left")
        second = read_face(f"face shop 2\n{rows} ask post a\n ask bank a\n get left left")
        post = read_face("face post 1\nrecord r\ncall 1 a r r")
        poor = (" take who sum poor", " take who sum poor")
        faces = (first, second, post, bank(1, ask=(MUST,), deeds=poor), bank(2, ask=(MUST,), answer=(MUST,), deeds=(" copy note note", *poor)))
        speaks = (("bank", 1), ("post", 1), ("shop", 1))
        ends = (("ada", None, (("shop", 1),)), ("bob", "shop", speaks), ("cyd", "bank", (("bank", 1),)), ("dan", "post", (("post", 1),)))
        made = House(faces, ends)
        made.ask("ada", "shop", 1, {**VALUE, "note": "n"})
        made.carry(1)
        made.work("bob")
        made.carry(2)
        self.assertEqual(made.work("cyd"), "fault")
        made.roll("bob", "shop", 2)
        made.carry(3)
        self.assertEqual(made.work("bob"), "asked")
        self.assertEqual((made.works("bob"), made.open_asks("bob")), (["ada1"], ["ada1.post1"]))
        made.roll("cyd", "bank", 2)
        made.roll("bob", "bank", 2)
        made.settle()
        self.assertEqual(made.told("ada1"), ("fault", "poor"))
        self.assertEqual([row[3] for row in made.ledger()], ["ada1.bank1", "ada1.post1", "ada1"])

    def test_kept_answers_of_other_faces_do_not_count(self):
        # What bob keeps of the bank is no answer of the post.
        shop = read_face(
            "face shop 1\nrecord give\n 1 left whole must\nrecord want\n 1 who text must\n 2 sum whole must\n"
            "call 1 b want give\n ask bank a\n get left left\n ask post a"
        )
        post = "face post {}\nrecord give\n 1 who text must\nrecord want\n 1 who text must\ncall 1 a want give\n copy who who"
        speaks = (("bank", 1), ("post", 1), ("shop", 1))
        ends = (("ada", None, (("shop", 1),)), ("bob", "shop", speaks), ("cyd", "bank", (("bank", 1),)), ("dan", "post", (("post", 1),)))
        made = House((shop, read_face(post.format(1)), read_face(post.format(2)), bank(1)), ends)
        made.ask("ada", "shop", 1, VALUE)
        made.carry(1)
        made.work("bob")
        made.carry(2)
        made.work("cyd")
        made.carry(3)
        self.assertEqual(made.work("bob"), "asked")
        made.roll("bob", "post", 2)
        made.settle()
        self.assertEqual(made.told("ada1"), ("done", {"left": 1}))

    def test_keys_below_that_another_end_asked(self):
        # ada1.bank1 is live for bob, who asked it; eve speaks the bank, too, and has no row of ada1 either.
        faces = (asking(1, more=(MUST,)), bank(1, ask=(MUST,)), bank(2, **NOTED))
        ends = (("ada", None, (("shop", 1),)), ("bob", "shop", (("bank", 1), ("shop", 1))), ("cyd", "bank", (("bank", 1),)), ("eve", None, (("bank", 1),)))
        made = House(faces, ends)
        made.ask("ada", "shop", 1, {**VALUE, "note": "n"})
        made.carry(1)
        made.work("bob")
        made.carry(2)
        made.work("cyd")
        made.lose(3)
        made.roll("cyd", "bank", 2)
        self.refused(made, ("key", "ada1.bank1"), "bob", "bank", 2)
        made.roll("eve", "bank", 2)
        made.fall("bob")
        self.refused(made, ("key", "ada1.bank1"), "bob", "bank", 2)

    def test_the_least_key_of_several(self):
        made = self.kept(room=20)
        made.ask("ada", "shop", 1, {**VALUE, "note": "n"})
        made.carry(made.net()[-1].number)
        made.work("bob")
        made.carry(made.net()[-1].number)
        made.work("cyd")
        made.lose(made.net()[-1].number)
        made.roll("cyd", "bank", 2)
        self.refused(made, ("key", "ada1.bank1"), "bob", "bank", 2)
        made.carry(4)
        made.work("dan")
        made.carry(made.net()[-1].number)
        self.assertEqual(made.work("bob"), "done")
        self.refused(made, ("key", "ada2.bank1"), "bob", "bank", 2)


class WholeTest(RollTest):
    def test_a_migration_from_end_to_end(self):
        """From asks without a note to asks with one, by an edition that may have one, with letters under way."""
        faces = (bank(1), bank(2, ask=(MUST,)), bank(3, ask=(MAY,)))
        made = House(faces, (("ada", None, (("bank", 1),)), ("bob", "bank", (("bank", 1),)), ("cyd", None, (("bank", 1),))))
        made.ask("ada", "bank", 1, VALUE)
        self.refused(made, ("talk", "ada"), "bob", "bank", 2)
        made.roll("bob", "bank", 3)
        made.roll("ada", "bank", 2)
        made.roll("cyd", "bank", 2)
        self.refused(made, ("letter", 1), "bob", "bank", 2)
        made.settle()
        made.roll("bob", "bank", 2)
        made.ask("ada", "bank", 1, {**VALUE, "note": "n"})
        made.settle()
        self.assertEqual([made.told(key) for key in ("ada1", "ada2")], [("done", {"left": 1}), ("done", {"left": 2})])
        self.assertEqual([row[5] for row in made.ledger()], [(("bank", 3),), (("bank", 2),)])


if __name__ == "__main__":
    unittest.main()
