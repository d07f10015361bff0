"""Points 2, 3, 32 and 33: houses written down, and read again only where they are written just so."""

import collections
import unittest

from facehouse.errors import NoKey, NoRoll, NoText
from facehouse.facetexts import read_face, show_face
from facehouse.house import House
from facehouse.housetexts import read_house, show_house
from facehouse.traces import explains, trace
from tests.otherwise import some_thing
from tests.plays import BANK, POST, SHOP, dice_house, house, play, state_of
from tests.reference import dice_of
from tests.samples import any_things
from tests.second import repr_of
from tests.second_lookers import is_text_of_house, shown

# A text in which all stands that may: see play_written.
WRITTEN = f"""\
house 6 19 15
waits 1 2 4 8

{BANK}

{POST}

{SHOP}

end ada - 7 up
speaks bank 1 shop 1
told done bank 1 1 1 1 1 9
told fault poor
told done shop 1 1 1 1 1 5 2 1 1 4
told late
told done bank 1 1 1 1 0
told lost
told lost

end bob bank 0 up
speaks bank 1 post 1
holds 5  x 
holds 3 row 1

end cyd post 0 down
speaks post 1
holds 4  x 

end dan shop 0 up
speaks bank 1 post 1 shop 1
holds 4  x 

end eve - 1 down
speaks post 1
told lost

row 0 bob ada1 ada 1
speaks bank 1 post 1
ask 1 2 3 32 120 32 2 1 1 9
done 1 1 1 9

row 0 bob ada2 ada 2
speaks bank 1 post 1
ask 1 2 1 121 2 1 1 1
fault poor

row 1 bob ada3.bank2 dan 2
speaks bank 1 post 1
ask 1 2 3 32 120 32 2 1 1 4
done 1 1 1 5

row 1 cyd ada3.post1 dan 1
speaks post 1
ask 1 2 3 32 120 32 2 1 1 4
done 1 1 1 4

row 1 dan ada3 ada 1
speaks bank 1 post 1 shop 1
ask 1 2 3 32 120 32 2 1 1 4
done 1 1 1 5 2 1 1 4

row 2 bob ada5 ada 1
speaks bank 1 post 1
ask 1 2 0 2 1 0
done 1 1 0

row 19 bob ada6 ada 1
speaks bank 1 post 1
ask 1 2 5 114 111 119 32 49 2 1 1 3 3 2 1 109
done 1 1 1 3"""


class WrittenTest(unittest.TestCase):
    def writes(self, made):
        """The text of a house, once it is read again and written anew."""
        text = show_house(made)
        again = read_house(text)
        self.assertEqual(show_house(again), text)
        self.assertIs(is_text_of_house(text), True)
        self.assertEqual((again.runs, again.steps), (0, 0))
        return text


def play_written():
    """A house that is written down as WRITTEN but for numbers of letters; it has all in its heads, too."""
    made = house()
    made.ask("ada", "bank", 1, {"who": " x ", "sum": 9})
    made.ask("ada", "bank", 2, {"who": "y", "sum": 1})
    made.settle()
    made.tick()
    made.ask("ada", "shop", 1, {"who": " x ", "sum": 4})
    made.settle()
    made.ask("ada", "bank", 1, {"who": "z", "sum": 1})
    for _ in range(16):
        if made.clock() == 2:
            made.ask("ada", "bank", 1, {"who": "", "sum": 0})
            made.carry(max(letter.number for letter in made.net()))
            made.work("bob")
            made.carry(max(letter.number for letter in made.net()))
            made.work("ada")
        made.tick()
        for letter in made.net():
            made.lose(letter.number)
    made.tick()
    made.tick()
    made.ask("ada", "bank", 1, {"who": "row 1", "sum": 3, "memo": "m"})
    made.ask("ada", "bank", 1, {"who": "late", "sum": 3})
    made.ask("eve", "post", 1, {"who": "late", "sum": 3})
    numbers = [letter.number for letter in made.net()]
    made.carry(numbers[0])
    made.work("bob")
    made.carry(numbers[1])
    made.fall("cyd")
    made.fall("eve")
    return made


class BlocksTest(WrittenTest):
    def test_the_least_house(self):
        face = read_face("face a 1")
        made = House((face,), (("e", "a", (("a", 1),)),), room=1, waits=(100,))
        self.assertEqual(self.writes(made), "house 1 0 0\nwaits 100\n\nface a 1\n\nend e a 0 up\nspeaks a 1")

    def test_all_that_may_stand_there(self):
        made = play_written()
        text = self.writes(made)
        first, rest = text.split("\n", 1)
        self.assertEqual(rest, WRITTEN.split("\n", 1)[1])
        sent = max(letter.number for letter in made.net())
        self.assertEqual(first, f"house 6 19 {sent}")
        self.assertNotEqual(made.queue("bob"), [])
        self.assertEqual(made.told("ada7"), ("open",))

    def test_room_clock_sent_and_waits(self):
        made = house(room=20, waits=(1, 2, 3, 4, 5, 6, 7, 100))
        for _ in range(12):
            made.tick()
        made.ask("ada", "bank", 1, {"who": "x", "sum": 9})
        made.double(1)
        made.lose(1)
        self.assertEqual(self.writes(made).split("\n")[:2], ["house 20 12 2", "waits 1 2 3 4 5 6 7 100"])

    def test_faces_by_names_then_editions(self):
        faces = [read_face(f"face {name} {edition}\nrecord r\ncall 1 a r r") for name, edition in (("b", 10), ("b", 9), ("a", 2), ("a", 11), ("c", 1))]
        made = House(tuple(faces), (("e", "b", (("b", 9),)), ("f", "a", (("a", 11), ("b", 10)))))
        blocks = self.writes(made).split("\n\n")
        self.assertEqual([block.split("\n")[0] for block in blocks[1:]], [
            "face a 2", "face a 11", "face b 9", "face b 10", "face c 1", "end e b 0 up", "end f a 0 up",
        ])
        self.assertEqual(blocks[1:6], [show_face(faces[at]) for at in (2, 3, 1, 0, 4)])
        self.assertEqual(blocks[7], "end f a 0 up\nspeaks a 11 b 10")

    def test_stores(self):
        made = house()
        texts = ["", " ", "  a", "a", "a ", "holds 1 a", "end", "face x 1", "~", "!", "A", "told lost", "x" * 20, "row 1 bob"]
        for at, text in enumerate(texts):
            made.ask("ada", "bank", 1, {"who": text, "sum": at + 1})
        made.ask("ada", "bank", 1, {"who": "nothing", "sum": 0})
        made.settle()
        block = [block for block in self.writes(made).split("\n\n") if block.startswith("end bob")][0]
        self.assertEqual(block.split("\n")[2:], [f"holds {texts.index(text) + 1} {text}" for text in sorted(texts)])
        self.assertIn("\nholds 1 \nholds 2  \nholds 3   a\n", block)

    def test_bodies_without_numbers(self):
        face = read_face("face a 1\nrecord r\n 1 x whole may\ncall 1 go r r\n copy x x")
        made = House((face,), (("e", "a", (("a", 1),)), ("f", None, (("a", 1),))))
        made.ask("f", "a", 1, {})
        made.ask("f", "a", 1, {"x": 0})
        made.settle()
        blocks = self.writes(made).split("\n\n")
        self.assertEqual(blocks[3], "end f - 2 up\nspeaks a 1\ntold done a 1 1\ntold done a 1 1 1 1 0")
        self.assertEqual(blocks[4], "row 0 e f1 f 1\nspeaks a 1\nask\ndone")
        self.assertEqual(blocks[5], "row 0 e f2 f 1\nspeaks a 1\nask 1 1 0\ndone 1 1 0")

    def test_the_edition_by_which_it_was_read(self):
        rows = "record r\n 1 x whole may\ncall 1 go r r\n copy x x"
        faces = tuple(read_face(f"face a {edition}\n{rows}") for edition in (1, 2, 3))
        made = House(faces, (("e", "a", (("a", 3),)), ("f", None, (("a", 1),))))
        made.ask("f", "a", 1, {"x": 7})
        made.roll("f", "a", 2)
        made.settle()
        made.roll("f", "a", 1)
        text = self.writes(made)
        self.assertIn("\nspeaks a 1\ntold done a 2 1 1 1 1 7\n", text)
        self.assertIn("\nrow 0 e f1 f 1\nspeaks a 3\n", text)

    def test_by_name(self):
        made = house()
        self.assertEqual(show_house(house=made), show_house(read_house(text=show_house(made))))

    def test_writing_changes_nothing(self):
        made = play_written()
        before = made.net(), made.queue("bob"), made.open_asks("ada"), made.told("ada7"), made.runs, made.steps
        show_house(made)
        self.assertEqual((made.net(), made.queue("bob"), made.open_asks("ada"), made.told("ada7"), made.runs, made.steps), before)


class ReadTest(WrittenTest):
    def test_what_is_written_down_is_there(self):
        made = read_house(WRITTEN)
        self.assertEqual([made.is_up(end) for end in ("ada", "bob", "cyd", "dan", "eve")], [True, True, False, True, False])
        self.assertEqual([made.told(f"ada{at}") for at in range(1, 8)], [
            ("done", {"left": 9}), ("fault", "poor"), ("done", {"left": 5, "mark": 4}), ("late",), ("done", {"left": 0}), ("lost",), ("lost",),
        ])
        self.assertEqual(made.told("eve1"), ("lost",))
        self.assertEqual([made.store(end) for end in ("ada", "bob", "cyd", "dan", "eve")], [{}, {" x ": 5, "row 1": 3}, {" x ": 4}, {" x ": 4}, {}])
        self.assertEqual((made.clock(), made.net(), made.runs, made.steps), (19, [], 0, 0))
        self.assertEqual([row[3] for row in made.ledger()], ["ada1", "ada2", "ada3.bank2", "ada3.post1", "ada3", "ada5", "ada6"])
        for end in ("ada", "bob", "cyd", "dan", "eve"):
            self.assertEqual((made.queue(end), made.open_asks(end), made.works(end)), ([], [], []))
        self.assertEqual(made.speaks("dan"), (("bank", 1), ("post", 1), ("shop", 1)))
        for key in ("ada8", "eve2", "bob1", "ada3.bank2"):
            with self.assertRaises(NoKey):
                made.told(key)

    def test_it_goes_on_from_there(self):
        made = read_house(WRITTEN)
        self.assertEqual(made.ask("ada", "bank", 1, {"who": " x ", "sum": 1}), "ada8")
        self.assertEqual(made.net()[0].number, 16)
        self.assertEqual(made.ask("bob", "post", 2, {"who": " x ", "sum": 1}), "bob1")
        self.assertEqual(made.tick(), 20)
        made.rise("cyd")
        made.settle()
        self.assertEqual((made.told("ada8"), made.told("bob1")), (("done", {"left": 6}), ("done", {"mark": 4})))
        self.assertEqual(made.ledger()[-1][:4], (20, "cyd", "post", "bob1"))
        self.assertEqual(made.run([("tick",)]), [21])
        self.assertEqual((made.runs, made.steps), (1, 1))
        self.writes(made)

    def test_the_room_and_the_waits_are_read(self):
        made = read_house(WRITTEN.replace("house 6 19 15\nwaits 1 2 4 8", "house 1 19 15\nwaits 2"))
        for _ in range(2):
            made.ask("ada", "bank", 1, {"who": "", "sum": 1})
        self.assertEqual((made.carry(16), made.carry(17)), ("queued", "lost"))
        made.tick()
        self.assertEqual(made.told("ada8"), ("open",))
        made.tick()
        self.assertEqual((made.told("ada8"), made.told("ada9")), (("late",), ("late",)))

    def test_keys_of_the_ledger_are_done(self):
        # What is asked by hand once more has another key; a letter of an old key can't come any more.
        made = read_house(WRITTEN)
        self.assertEqual(trace(made, "ada3")[8], (trace(made, "ada3.bank2"), trace(made, "ada3.post1")))
        book = tuple(read_face(text) for text in (BANK, POST, SHOP))
        for row in made.ledger():
            self.assertIs(explains(book, trace(made, row[3])), True)

    def test_told_values_are_the_askers_own(self):
        made = read_house(WRITTEN)
        made.told("ada1")[1].clear()
        made.store("bob").clear()
        self.assertEqual((made.told("ada1"), made.store("bob")), (("done", {"left": 9}), {" x ": 5, "row 1": 3}))
        other = read_house(WRITTEN)
        made.ask("ada", "bank", 1, {"who": " x ", "sum": 1})
        made.settle()
        self.assertEqual(show_house(other), WRITTEN)

    def test_numbers_of_thirty_figures(self):
        text = WRITTEN.replace("house 6 19 15", f"house 6 {'9' * 30} {'8' * 30}")
        made = read_house(text)
        self.assertEqual((made.clock(), show_house(made)), (10**30 - 1, text))
        made.ask("ada", "bank", 1, {"who": "", "sum": 1})
        self.assertEqual(made.net()[0].number, int("8" * 30) + 1)
        for other in (text.replace("9" * 30, "9" * 31), text.replace("8" * 30, "8" * 31)):
            with self.assertRaises(NoText):
                read_house(other)


    def test_rollings_as_in_the_house_itself(self):
        """shop asks bank; bank 1 answers without a note, bank 2 with one; bank 3 has another number of the call."""
        shop = read_face("face shop 1\nrecord give\nrecord want\n 1 note text must\ncall 1 go want give\n ask bank a")
        first = read_face("face bank 1\nrecord give\nrecord want\n 1 note text must\ncall 1 a want give")
        rows = "record give\n 1 note text must\nrecord want\n 1 note text must\n{}copy note note"
        second = read_face("face bank 2\n" + rows.format("call 1 a want give\n "))
        third = read_face("face bank 3\n" + rows.format("call 2 a want give\n "))
        fourth = read_face("face bank 4\n" + rows.format("call 1 x want give\n copy note note\ncall 2 a want give\n "))
        ends = (("ada", None, (("shop", 1),)), ("bob", "shop", (("bank", 1), ("shop", 1))), ("cyd", "bank", (("bank", 1),)))
        made = House((shop, first, second, third, fourth), ends)
        made.ask("ada", "shop", 1, {"note": "n"})
        made.carry(1)
        made.work("bob")
        made.carry(2)
        made.work("cyd")
        made.roll("cyd", "bank", 4)
        # bob forgets ada1, but might be asked so again, and ask so again: the answer in the ledger has no note.
        again = read_house(self.writes(made))
        self.assertEqual(again.run([("roll", "bob", "bank", 2)], stop=False), ["NoRoll"])
        with self.assertRaises(NoRoll) as caught:
            again.roll("bob", "bank", 2)
        self.assertEqual(caught.exception.why, ("key", "ada1.bank1"))
        again.roll("bob", "bank", 3)
        # Once ada1 is done nobody waits for it.
        made.settle()
        again = read_house(self.writes(made))
        self.assertEqual(again.told("ada1"), ("done", {}))
        again.roll("bob", "bank", 2)

    def test_what_was_done_is_sent_again(self):
        made = house()
        made.ask("ada", "bank", 1, {"who": "x", "sum": 9})
        made.settle()
        made.ask("ada", "bank", 3, {"who": "x", "sum": 4})
        made.carry(3)
        made.work("bob")
        made.carry(4)
        made.work("cyd")
        again = read_house(self.writes(made))
        self.assertEqual((again.told("ada2"), again.store("cyd"), again.store("bob")), (("lost",), {"x": 4}, {"x": 9}))
        self.assertEqual([row[3] for row in again.ledger()], ["ada1", "ada2.post1"])
        self.assertEqual(trace(again, "ada2.post1"), trace(made, "ada2.post1"))


class RefusedTest(WrittenTest):
    def refused(self, thing):
        with self.assertRaises(NoText) as caught:
            read_house(thing)
        self.assertIs(type(caught.exception), NoText)
        self.assertIs(is_text_of_house(thing), False)

    def test_things_that_are_no_texts(self):
        dice = dice_of(33)
        for thing in any_things() + [some_thing(dice) for _ in range(300)] + [WRITTEN.encode("ascii"), [WRITTEN], (WRITTEN,), WRITTEN.split("\n")]:
            self.refused(thing)

    def test_texts_of_other_things(self):
        for text in ("", " ", "\n", "\n\n", "house", "house 6 0 0", "house 6 0 0\nwaits 1", BANK, "house 6 0 0\nwaits 1\n\n" + BANK,
                     "house 6 0 0\nwaits 1\n\nend ada - 0 up\nspeaks bank 1", "x" * 400, "\n" * 400):
            self.refused(text)

    def changed(self, old, new, many=1):
        """That WRITTEN is refused with something put otherwise."""
        self.assertEqual(WRITTEN.count(old), many, old)
        self.refused(WRITTEN.replace(old, new))

    def test_the_written_text_is_read(self):
        self.assertEqual(show_house(read_house(WRITTEN)), WRITTEN)
        self.assertIs(is_text_of_house(WRITTEN), True)

    def test_bounds_of_room_and_waits(self):
        for first, so in (("house 1 19 15\nwaits 1", True), ("house 20 19 15\nwaits 100 1 1 1 1 1 1 1", True), ("house 0 19 15\nwaits 1", False),
                          ("house 21 19 15\nwaits 1", False), ("house 6 19 15\nwaits", False), ("house 6 19 15\nwaits 0", False),
                          ("house 6 19 15\nwaits 1 0 1", False), ("house 6 19 15\nwaits 101", False), ("house 6 19 15\nwaits 1 1 1 1 1 1 1 1 1", False),
                          ("house 6 19\nwaits 1", False), ("house 6 19 15 1\nwaits 1", False), ("house 6 19 15\nwaits 1\nwaits 1", False),
                          ("house 6 19 15", False), ("waits 1\nhouse 6 19 15", False), ("house 6 18 15\nwaits 1", False), ("house 6 20 0\nwaits 1", True),
                          ("house 6 019 15\nwaits 1", False), ("house 6 19 -1\nwaits 1", False), ("house 6 19 15\nwait 1", False),
                          ("House 6 19 15\nwaits 1", False), ("house six 19 15\nwaits 1", False), ("house 6 19 15 \nwaits 1", False),
                          ("house  6 19 15\nwaits 1", False), (" house 6 19 15\nwaits 1", False), ("house 6 19 15\nwaits 1 ", False)):
            text = WRITTEN.replace("house 6 19 15\nwaits 1 2 4 8", first)
            if so:
                self.assertEqual(show_house(read_house(text)), text)
                self.assertIs(is_text_of_house(text), True)
            else:
                self.refused(text)

    def test_faces(self):
        self.changed(f"{BANK}\n\n{POST}", f"{POST}\n\n{BANK}")
        self.changed(f"{BANK}\n\n", f"{BANK}\n\n{BANK}\n\n")
        self.changed(f"{SHOP}\n\n", "")
        self.changed("face shop 1", "face shop 2")
        self.changed("face shop 1", "face shop 100")
        self.changed("call 1 buy order bill\n", "call 1 buy order bill\n add who sum \n")
        # Not right, may not ask, in a ring, doesn't talk.
        self.changed(" get mark mark\n tell left who", " get mark mark", 1)
        self.changed(" ask bank send\n", " ask bank zed\n")
        self.changed("call 2 look note slip\n tell mark who", "call 2 look note slip\n ask bank put\n tell mark who")

    def test_a_book_of_at_most_twelve_faces(self):
        extra = [f"face zed {edition}" for edition in range(1, 11)]
        for many in (9, 10):
            text = WRITTEN.replace(SHOP, "\n\n".join([SHOP] + extra[:many]))
            self.assertIs(is_text_of_house(text), many == 9)
            if many == 9:
                self.assertEqual(show_house(read_house(text)), text)
            else:
                self.refused(text)

    def test_at_most_five_ends(self):
        sixth = "\n\nend fay - 0 up\nspeaks post 1"
        text = WRITTEN.replace("told lost\n\nrow 0 bob ada1", f"told lost{sixth}\n\nrow 0 bob ada1")
        self.refused(text)
        ends = "\n\n".join(f"end e{'abcdef'[at]} {'a' if at == 0 else '-'} 0 up\nspeaks a 1" for at in range(6))
        for many in (5, 6):
            text = "house 6 0 0\nwaits 1\n\nface a 1\n\n" + "\n\n".join(ends.split("\n\n")[:many])
            self.assertIs(is_text_of_house(text), many == 5)
            if many == 5:
                self.assertEqual(show_house(read_house(text)), text)
            else:
                self.refused(text)

    def test_at_most_four_spoken(self):
        names = "abcde"
        faces = "\n\n".join(f"face {name} 1" for name in names)
        for many in (4, 5):
            speaks = " ".join(f"{name} 1" for name in names[:many])
            ends = "\n\n".join(f"end e{name} {name} 0 up\nspeaks {speaks if name == 'a' else f'{name} 1'}" for name in names[:many])
            text = f"house 6 0 0\nwaits 1\n\n{faces}\n\n{ends}"
            self.assertIs(is_text_of_house(text), many == 4)
            if many == 4:
                self.assertEqual(show_house(read_house(text)), text)
            else:
                self.refused(text)

    def test_ends(self):
        for old, new in (("end ada - 7 up", "end ada - 8 up"), ("end ada - 7 up", "end ada - 6 up"), ("end ada - 7 up", "end ada - 07 up"),
                         ("end ada - 7 up", "end ada - 7 Up"), ("end ada - 7 up", "end ada - 7"), ("end ada - 7 up", "end ada - 7 up 1"),
                         ("end ada - 7 up", "end ada bank 7 up"), ("end ada - 7 up", "end ada None 7 up"), ("end ada - 7 up", "end ada  7 up"),
                         ("end ada - 7 up", "end zed - 7 up"), ("end ada - 7 up", "end bob - 7 up"), ("end ada - 7 up", "end adaadaada - 7 up"),
                         ("end ada - 7 up", "end Ada - 7 up"), ("end ada - 7 up", "end - ada 7 up"), ("end bob bank", "end bob -"),
                         ("end bob bank", "end bob post"), ("end cyd post 0 down", "end cyd post 1 down"), ("end eve - 1 down", "end eve - 0 down"),
                         ("speaks bank 1 shop 1\ntold", "speaks shop 1 bank 1\ntold"), ("speaks bank 1 shop 1\ntold", "speaks bank 2 shop 1\ntold"),
                         ("speaks bank 1 shop 1\ntold", "speaks bank 1 bank 1\ntold"), ("speaks bank 1 shop 1\ntold", "speaks\ntold"),
                         ("speaks bank 1 shop 1\ntold", "told"), ("speaks bank 1 shop 1\ntold", "speaks bank 1 shop\ntold"),
                         ("speaks bank 1 shop 1\ntold", "speaks bank 1 zed 1\ntold"), ("speaks bank 1 shop 1\ntold", "speak bank 1 shop 1\ntold"),
                         ("speaks bank 1 post 1\nholds", "speaks bank 1\nholds"), ("holds 5  x \n", ""), ("holds 5  x \n", "holds 6  x \n"),
                         ("holds 5  x \n", "holds 5  x\n"), ("holds 5  x \n", "holds 5 x \n"), ("holds 5  x \n", "holds 05  x \n"), ("holds 5  x \n", "holds 5  x \nholds 5  x \n"),
                         ("holds 5  x \nholds 3 row 1", "holds 3 row 1\nholds 5  x "), ("holds 3 row 1", "holds 3 row 1\nholds 0 zed"),
                         ("holds 3 row 1", "holds 3 row 1\nholds 1 zed"), ("holds 3 row 1", "holds 3 row 1\nholds 1"), ("holds 3 row 1", "holds 3 row 1\nholds"),
                         ("holds 3 row 1", "holds 3 row 1\nmore"), ("holds 3 row 1", "hold 3 row 1"), ("end eve - 1 down\nspeaks post 1", "end eve - 1 down\nspeaks post 1\nholds 1 x")):
            self.changed(old, new)
        # A downed end may be up, and the other way round.
        for old, new in (("end ada - 7 up", "end ada - 7 down"), ("end cyd post 0 down", "end cyd post 0 up")):
            text = WRITTEN.replace(old, new)
            self.assertEqual(show_house(read_house(text)), text)

    def test_told_lines(self):
        for new in ("told done bank 1 1 1 1 1 8", "told done bank 1 1 1 1 1", "told done bank 1 1", "told done bank 1", "told done bank", "told done",
                    "told done post 1 1 1 1 1 9", "told done bank 2 1 1 1 1 9", "told done bank 1 2 1 1 1 9", "told done bank 1 4 1 1 1 9",
                    "told done zed 1 1 1 1 1 9", "told fault poor", "told fault", "told fault poor poor", "told open", "told", "told late 1",
                    "told lost 1", "told done bank 1 1 1 1 1 9 ", "told done bank 01 1 1 1 1 9", "told done bank 1 1 1 1 1 300", " told late", "Told late"):
            self.changed("told done bank 1 1 1 1 1 9", new)
        for new in ("told late", "told lost"):
            text = WRITTEN.replace("told done bank 1 1 1 1 1 9", new)
            self.assertEqual(show_house(read_house(text)), text)
        for new in ("told fault rich", "told fault great", "told done bank 1 2 1 1 1 0", "told fault Poor", "told fault poor "):
            self.changed("told fault poor", new)
        # A key that has no row.
        for new in ("told done bank 1 1 1 1 1 1", "told fault poor"):
            self.changed("told late", new)
        # Keys stand from the first on.
        self.changed("told done bank 1 1 1 1 1 9\ntold fault poor", "told fault poor\ntold done bank 1 1 1 1 1 9")
        # Told lines stand ahead of holds.
        self.changed("holds 4  x \n\nend eve - 1 down\nspeaks post 1\ntold lost", "told lost\n\nend eve - 1 down\nspeaks post 1\nholds 4  x ")

    def test_told_lost_and_late_of_keys_that_are_done(self):
        for old in ("told fault poor", "told done shop 1 1 1 1 1 5 2 1 1 4", "told done bank 1 1 1 1 0"):
            for new in ("told late", "told lost"):
                text = WRITTEN.replace(old, new)
                self.assertEqual(show_house(read_house(text)), text)
        text = WRITTEN.replace("told late\ntold done bank 1 1 1 1 0\ntold lost\ntold lost", "told late\ntold done bank 1 1 1 1 0\ntold done bank 1 1 1 1 1 3\ntold lost")
        self.assertEqual(show_house(read_house(text)), text)

    def test_an_edition_that_reads_no_answer(self):
        # bank 2 hasn't the call; bank 3 can't read the answer; bank 4 reads it otherwise.
        second = "face bank 2\nrecord reply\nrecord request\ncall 9 put request reply"
        third = "face bank 3\nrecord reply\n 1 left text may\nrecord request\ncall 1 put request reply"
        fourth = "face bank 4\nrecord reply\n 1 rest whole may\nrecord request\ncall 1 put request reply"
        base = WRITTEN.replace(BANK, "\n\n".join((BANK, second, third, fourth)))
        self.assertEqual(show_house(read_house(base)), base)
        for edition in (2, 3, 5, 0, 99):
            self.refused(base.replace("told done bank 1 1 1 1 1 9", f"told done bank {edition} 1 1 1 1 9"))
        text = base.replace("told done bank 1 1 1 1 1 9", "told done bank 4 1 1 1 1 9")
        self.assertEqual(read_house(text).told("ada1"), ("done", {"rest": 9}))

    def test_rows(self):
        row = "row 0 bob ada1 ada 1\nspeaks bank 1 post 1\nask 1 2 3 32 120 32 2 1 1 9\ndone 1 1 1 9"
        for new in ("row 1 bob ada1 ada 1", "row 00 bob ada1 ada 1", "row 0 cyd ada1 ada 1", "row 0 ada ada1 ada 1", "row 0 zed ada1 ada 1", "row 0 bob ada7 ada 1",
                    "row 0 bob ada1 dan 1", "row 0 bob ada1 bob 1", "row 0 bob ada1 zed 1", "row 0 bob ada1 ada 2", "row 0 bob ada1 ada 4", "row 0 bob ada1 ada",
                    "row 0 bob ada1 ada 1 1", "row 0 bob  ada 1", "row -1 bob ada1 ada 1", "row 0 bob ada1 ada 01", "Row 0 bob ada1 ada 1"):
            self.changed(row, row.replace("row 0 bob ada1 ada 1", new))
        for old, new in (("speaks bank 1 post 1", "speaks bank 1"), ("speaks bank 1 post 1", "speaks post 1 bank 1"), ("speaks bank 1 post 1", "speaks bank 2 post 1"),
                         ("speaks bank 1 post 1", "speaks"), ("speaks bank 1 post 1\n", ""), ("ask 1 2 3", "ask 1 2 4"), ("ask 1 2 3 32 120 32 2 1 1 9", "ask"),
                         ("ask 1 2 3", "ask 1 2 03"), ("ask 1 2 3 32 120 32 2 1 1 9\n", ""), ("ask 1 2 3 32 120 32 2 1 1 9", "ask 1 2 3 32 120 32 2 1 1 9 "),
                         ("ask 1 2 3 32 120 32 2 1 1 9", "ask 1 2 3 32 376 32 2 1 1 9"), ("done 1 1 1 9", "done 1 1 1 8"), ("done 1 1 1 9", "done"), ("done 1 1 1 9", "fault poor"),
                         ("done 1 1 1 9", "fault"), ("done 1 1 1 9", "done 1 1 1 9\ndone 1 1 1 9"), ("\ndone 1 1 1 9", ""), ("done 1 1 1 9", "Done 1 1 1 9"), ("done 1 1 1 9", "told done 1 1 1 9")):
            self.changed(row, row.replace(old, new))
        self.changed(row + "\n\n", "")
        self.changed(row, row + "\n\n" + row)

    def test_rows_exchanged(self):
        blocks = WRITTEN.split("\n\n")
        rows = [at for at, block in enumerate(blocks) if block.startswith("row ")]
        reads = 0
        for at in rows[:-1]:
            text = "\n\n".join(blocks[:at] + [blocks[at + 1], blocks[at]] + blocks[at + 2:])
            so = is_text_of_house(text)
            reads += so
            if so:
                self.assertEqual(show_house(read_house(text)), text)
            else:
                self.refused(text)
        # ada1 and ada2 may stand the other way round, and what two ends did for dan.
        self.assertEqual(reads, 2)

    def keyed(self, key, sender="ada", number=1):
        """WRITTEN with another key and sender of the row of ada6, whose key isn't told done."""
        return WRITTEN.replace("row 19 bob ada6 ada 1", f"row 19 bob {key} {sender} {number}")

    def test_keys_of_the_ledger(self):
        for key, sender in (("ada7", "ada"), ("ada4", "ada"), ("eve1", "eve"), ("ada7.bank1", "ada"), ("ada7.bank1", "eve"), ("ada7.shop1.bank1", "dan"),
                            ("eve1.x1.abcdefgh30.bank1", "cyd"), ("ada7.x10.bank1", "dan"), ("ada3.bank1", "dan"), ("ada1.bank1", "dan"), ("ada2.post3.bank1", "dan")):
            text = self.keyed(key, sender)
            self.assertIs(is_text_of_house(text), True, key)
            self.assertEqual(show_house(read_house(text)), text)
        for key, sender in (("ada8", "ada"), ("ada0", "ada"), ("ada07", "ada"), ("ada", "ada"), ("7", "ada"), ("eve2", "eve"), ("eve1", "ada"), ("bob1", "ada"), ("dan1", "dan"),
                            ("zed1", "ada"), ("ada7", "dan"), ("ada7.bank", "ada"), ("ada7.bank2", "ada"), ("ada7.post1", "ada"), ("ada8.bank1", "dan"),
                            ("ada.bank1", "dan"), ("ada7..bank1", "dan"), (".bank1", "dan"), ("ada7.x31.bank1", "dan"), ("ada7.x0.bank1", "dan"), ("ada7.x01.bank1", "dan"),
                            ("ada7.x.bank1", "dan"), ("ada7.9.bank1", "dan"), ("ada7.abcdefghi1.bank1", "dan"), ("ada7.X1.bank1", "dan"), ("ADA7", "ada"), ("ada7.", "ada"),
                            ("ada7x", "ada"), ("ada-7", "ada"), ("ada7.x1y.bank1", "dan"), ("ada1", "ada"), ("ada3.bank2", "dan"), ("ada7.x2 bank1", "dan"), ("ada" + "9" * 40, "ada")):
            self.refused(self.keyed(key, sender))

    def test_ticks_and_the_clock(self):
        self.changed("house 6 19 15", "house 6 18 15")
        self.changed("row 19 bob ada6", "row 20 bob ada6")
        text = WRITTEN.replace("row 19 bob ada6", "row 2 bob ada6").replace("house 6 19 15", "house 6 2 15")
        self.assertEqual(show_house(read_house(text)), text)
        self.changed("row 19 bob ada6", "row 1 bob ada6")

    def test_blocks_and_lines(self):
        for text in (WRITTEN + "\n", "\n" + WRITTEN, WRITTEN + "\n\n", WRITTEN + " ", " " + WRITTEN, WRITTEN.replace("\n\n", "\n\n\n", 1), WRITTEN.replace("\n\n", "\n", 1),
                     WRITTEN.replace("\n\n", "\n \n", 1), WRITTEN.replace("\n", "\r\n"), WRITTEN.replace(" ", "\t", 1), WRITTEN.upper(), WRITTEN + "\n\nmore",
                     WRITTEN + "\n\n" + WRITTEN, WRITTEN.replace("\n\nend ada", "\n\nmore\n\nend ada")):
            self.refused(text)

    def test_every_line_left_out_or_twice(self):
        rows = WRITTEN.split("\n")
        for at in range(len(rows)):
            for text in ("\n".join(rows[:at] + rows[at + 1:]), "\n".join(rows[:at] + rows[at:at + 1] + rows[at:]), "\n".join(rows[:at] + ["zed"] + rows[at:])):
                self.held(text)
        blocks = WRITTEN.split("\n\n")
        for at in range(len(blocks)):
            for text in ("\n\n".join(blocks[:at] + blocks[at + 1:]), "\n\n".join(blocks[:at] + blocks[at:at + 1] + blocks[at:])):
                self.held(text)

    def held(self, text):
        """Whether a text is read, once the second reader told the same, and what is read is written as just that."""
        so = is_text_of_house(text)
        try:
            again = show_house(read_house(text))
        except NoText:
            again = None
        self.assertEqual(again, text if so else None)
        return so

    def test_every_sign_put_otherwise(self):
        counts = collections.Counter()
        for at, sign in enumerate(WRITTEN):
            others = {"", sign + sign, " ", "\n", "1", "0", "a", "~"} if at % 4 == 0 else {"", "2"}
            for other in others - {sign}:
                counts[self.held(WRITTEN[:at] + other + WRITTEN[at + 1:])] += 1
        self.assertGreater(min(counts.values()), 30, counts)

    def test_every_word_put_otherwise(self):
        words = WRITTEN.replace("\n", " \n ").split(" ")
        counts = collections.Counter()
        for at, word in enumerate(words):
            for other in ("1", "2", "ada", "bank", "-", "x" * 9, "lost", "10", "99", ""):
                changed = words[:at] + [other] + words[at + 1:]
                if at % 3 == len(other) % 3 and word != "\n":
                    counts[self.held(" ".join(changed).replace(" \n ", "\n"))] += 1
        self.assertGreater(min(counts.values()), 20, counts)


class PlayTest(WrittenTest):
    def test_written_and_read_between_deeds(self):
        dice = dice_of(32)
        rolls = collections.Counter()
        for _ in range(40):
            _, _, made, model = dice_house(dice)
            for _ in range(3):
                play(dice, made, model, 80)
                text = self.writes(made)
                self.assertEqual(text, shown(model))
                made = read_house(text)
                model.fall_silent()
                self.assertEqual(repr_of(state_of(made, model)), repr_of(model.state()))
                for end in model.names:
                    for name in model.editions[end]:
                        for other, edition in model.faces:
                            if other == name:
                                rolls[self.roll_alike(made, model, end, name, edition)] += 1
                self.assertEqual(show_house(made), text)
        self.assertGreater(min(rolls[None], rolls["talk"], rolls["among"]), 20, rolls)

    def roll_alike(self, made, model, end, name, edition):
        """That a house rolls an end just where its model does; the reason, or None; both are rolled back then."""
        before = model.editions[end][name]
        why = model.why_not(end, name, edition)
        told = made.run([("roll", end, name, edition)], stop=False)
        self.assertEqual(told, ["NoRoll" if why else None])
        if not why:
            self.assertEqual(made.run([("roll", end, name, before)]), [None])
        return why[0] if why else None

    def test_texts_by_dice_with_something_put_otherwise(self):
        dice = dice_of(34)
        counts = collections.Counter()
        for _ in range(40):
            _, _, made, model = dice_house(dice)
            play(dice, made, model, 120)
            text = self.writes(made)
            others = [one for one in text.split("\n\n") if one.startswith(("end", "row"))]
            for _ in range(40):
                counts[self.held_otherwise(dice, text, others)] += 1
        self.assertGreater(min(counts.values()), 20, counts)

    def held_otherwise(self, dice, text, blocks):
        rows = text.split("\n")
        at = dice.randrange(len(rows))
        way = dice.randrange(6)
        if way == 0:
            words = rows[at].split(" ")
            words[dice.randrange(len(words))] = dice.choice(("0", "1", "2", "7", "ann", "cat", "aa", "bb", "late", "-"))
            rows[at] = " ".join(words)
        elif way == 1:
            del rows[at]
        elif way == 2:
            rows[at:at] = [rows[dice.randrange(len(rows))]]
        elif way == 3:
            rows[at] = dice.choice(("told late", "told lost", "told fault poor", "holds 1 a", "done", "ask", "up"))
        elif way == 4:
            one = dice.choice(blocks)
            return RefusedTest.held(self, text.replace(one, dice.choice(blocks), 1))
        else:
            numbers = [spot for spot, row in enumerate(rows) if row[:3] in ("row", "end", "hol", "tol", "hou")]
            at = dice.choice(numbers)
            words = rows[at].split(" ")
            spots = [spot for spot, word in enumerate(words) if word.isdigit()]
            if spots:
                spot = dice.choice(spots)
                words[spot] = str(max(0, int(words[spot]) + dice.choice((-1, 1))))
            rows[at] = " ".join(words)
        return RefusedTest.held(self, "\n".join(rows))


if __name__ == "__main__":
    unittest.main()
