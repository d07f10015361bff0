"""Points 2 and 14 to 17: what is wrong among faces that ask, what is asked, and what a call comes to."""

import copy
import unittest

from facehouse.deeds import asked, outcome, wrong_among
from facehouse.facetexts import read_face
from facehouse.rights import wrong
from facehouse.values import is_value
from tests.plays import dice_book, dice_value
from tests.reference import dice_of, some_value
from tests.second import among, calls, outcome_of, repr_of

# All plain kinds, and some that aren't.
PLAIN = ("whole", "truth", "text", "list whole", "list truth", "list text")
OTHERS = ("choice coin", "record inner", "list choice coin", "list record inner")


def face_of(*rows, name="own", edition=1):
    """A right face with these lines below its first one."""
    face = read_face("\n".join((f"face {name} {edition}",) + rows))
    assert not wrong(face), wrong(face)
    return face


def own(*deeds, ask=(), answer=(), extra=()):
    """A face own with one call, do, of the number 3: rows of its ask's and answer's fields, and of its deeds."""
    rows = sorted([("inner", (" 1 n whole may",)), ("reply", answer), ("want", ask), *extra])
    parts = [line for name, fields in rows for line in (f"record {name}", *fields)]
    return face_of("choice coin", " 1 gold", *parts, "call 3 do want reply", *[f" {deed}" for deed in deeds])


def other(*, name="post", ask=(), answer=(), number=5, call="send"):
    """A face post with one call, send, of the number 5, which copies or tells what its answer has."""
    deeds = []
    for row in answer:
        _, field, *kind, _ = row.strip().split(" ")
        deeds.append(f" copy {field} {field}")
    more = [row for row in answer if row not in ask]
    asks = sorted(set(ask) | set(more), key=lambda row: int(row.split(" ")[1]))
    return face_of("choice coin", " 1 gold", "record inner", " 1 n whole may", "record note", *asks, "record slip",
                   *answer, f"call {number} {call} note slip", *deeds, name=name)


class AmongTest(unittest.TestCase):
    def wrongs(self, face, spoken, expected):
        """That just these are wrong, and the second reckoning finds them, too."""
        self.assertEqual(wrong_among(face, spoken), expected)
        self.assertEqual(among(face, spoken), expected)

    def test_nothing_is_asked(self):
        self.wrongs(own(), (), [])
        self.wrongs(own(), (other(),), [])
        self.assertEqual(wrong_among(own()), [])
        self.assertEqual(wrong_among(face=own(), spoken=()), [])

    def test_a_face_that_is_not_spoken(self):
        face = own("ask post send")
        self.wrongs(face, (), [("nobody", "do", 0)])
        self.assertEqual(wrong_among(face), [("nobody", "do", 0)])
        self.wrongs(face, (other(name="mint"),), [("nobody", "do", 0)])
        self.wrongs(face, (other(name="mint"), other(), other(name="shop")), [])

    def test_a_call_of_another_name(self):
        self.wrongs(own("ask post send"), (other(call="look"),), [("nobody", "do", 0)])
        self.wrongs(own("ask post look"), (other(call="look"),), [])
        # Numbers don't count.
        self.wrongs(own("ask post send"), (other(number=3),), [])

    def test_places_are_among_all_deeds(self):
        ask = (" 1 who text must", " 2 sum whole must")
        answer = (" 1 left whole may",)
        face = own("add who sum", "tell left who", "ask mint send", "take who sum poor", "ask post send", ask=ask, answer=answer)
        self.wrongs(face, (), [("nobody", "do", 2), ("nobody", "do", 4)])
        self.wrongs(face, (other(),), [("nobody", "do", 2)])
        self.wrongs(face, (other(name="mint", ask=(" 1 x whole must",)), other(ask=(" 2 y text must",))),
                    [("asked", "do", 2, "x"), ("asked", "do", 4, "y")])

    def test_every_kind_of_a_must_field_that_is_asked(self):
        for kind in PLAIN + OTHERS:
            for need in ("must", "may"):
                spoken = (other(ask=(f" 4 x {kind} {need}",)),)
                for row in ("", *[f" 9 x {mine} {mine_need}" for mine in PLAIN + OTHERS for mine_need in ("must", "may")]):
                    face = own("ask post send", ask=(row,) if row else ())
                    so = need == "may" or (kind in PLAIN and row == f" 9 x {kind} must")
                    with self.subTest(kind=kind, need=need, row=row):
                        self.wrongs(face, spoken, [] if so else [("asked", "do", 0, "x")])

    def test_a_must_field_of_another_name(self):
        self.wrongs(own("ask post send", ask=(" 4 y whole must",)), (other(ask=(" 4 x whole must",)),),
                    [("asked", "do", 0, "x")])

    def test_several_fields_rise(self):
        spoken = (other(ask=(" 1 z whole must", " 2 a text must", " 3 m truth must", " 4 b whole may")),)
        self.wrongs(own("ask post send", ask=(" 1 m truth must",)), spoken,
                    [("asked", "do", 0, "a"), ("asked", "do", 0, "z")])

    def test_every_kind_of_a_field_that_is_got(self):
        for kind in PLAIN + OTHERS:
            for need in ("must", "may"):
                spoken = (other(answer=(f" 4 x {kind} {need}",), ask=(f" 4 x {kind} {need}",)),)
                asks_wrong = [] if need == "may" or kind in PLAIN else [("asked", "do", 0, "x")]
                for mine in PLAIN + OTHERS:
                    for mine_need in ("must", "may"):
                        face = own("ask post send", "get h x", ask=(f" 9 x {kind} must",), answer=(f" 2 h {mine} {mine_need}",))
                        so = need == "must" and kind == mine and kind in PLAIN
                        with self.subTest(kind=kind, need=need, mine=mine):
                            self.wrongs(face, spoken, asks_wrong + ([] if so else [("got", "do", 1)]))

    def test_a_get_of_a_field_that_is_not_there(self):
        spoken = (other(ask=(" 1 y whole may",), answer=(" 1 y whole may",)),)
        self.wrongs(own("ask post send", "get h x", answer=(" 2 h whole must",)), spoken, [("got", "do", 1)])
        # x of the asked one's ask isn't one of its answer.
        spoken = (other(ask=(" 1 x whole may",)),)
        self.wrongs(own("ask post send", "get h x", answer=(" 2 h whole must",)), spoken, [("got", "do", 1)])

    def test_a_get_behind_an_ask_that_nobody_answers(self):
        face = own("ask post send", "get h x", answer=(" 2 h whole must",))
        self.wrongs(face, (), [("got", "do", 1), ("nobody", "do", 0)])

    def test_a_get_is_of_what_was_asked_last(self):
        mint = other(name="mint", ask=(" 1 x whole must",), answer=(" 1 x whole must",))
        post = other(ask=(" 1 y whole must",), answer=(" 1 y whole must",))
        ask = (" 1 x whole must", " 2 y whole must")
        answer = (" 1 h whole must", " 2 i whole may")
        self.wrongs(own("ask mint send", "get h x", "ask post send", "get i y", ask=ask, answer=answer), (mint, post), [])
        self.wrongs(own("ask mint send", "ask post send", "get h x", "get i y", ask=ask, answer=answer), (mint, post),
                    [("got", "do", 2)])
        self.wrongs(own("ask mint send", "ask post send", "get h x", "get i y", ask=ask, answer=answer), (mint,),
                    [("got", "do", 2), ("got", "do", 3), ("nobody", "do", 1)])
        self.wrongs(own("ask post send", "get h y", "ask mint send", "get i y", ask=ask, answer=answer), (mint,),
                    [("got", "do", 1), ("got", "do", 3), ("nobody", "do", 0)])
        # Deeds between an ask and its get are passed over.
        self.wrongs(own("ask mint send", "copy i y", "get h x", ask=ask, answer=answer), (mint, post), [])

    def test_calls_are_told_by_their_names(self):
        face = face_of("record r", "call 1 zed r r", " ask post send", "call 2 abe r r", " ask mint send")
        self.wrongs(face, (), [("nobody", "abe", 0), ("nobody", "zed", 0)])
        face = face_of("record r", " 1 x whole may", "call 1 zed r r", " ask post send", " get x x")
        self.wrongs(face, (other(ask=(" 1 x whole must",)),), [("asked", "zed", 0, "x"), ("got", "zed", 1)])

    def test_what_is_told_is_the_askers_own(self):
        face = own("ask post send")
        first = wrong_among(face)
        first.append(1)
        self.assertEqual(wrong_among(face), [("nobody", "do", 0)])

    def test_by_dice(self):
        dice = dice_of(15)
        counts = {"nobody": 0, "asked": 0, "got": 0}
        for _ in range(150):
            book = dice_book(dice)
            for face in book:
                spoken = [one for one in book if one.name != face.name and dice.random() < 0.8]
                spoken = tuple({one.name: one for one in sorted(spoken, key=lambda one: one.name)}.values())
                found = wrong_among(face, spoken)
                self.assertEqual(found, among(face, spoken))
                for row in found:
                    counts[row[0]] += 1
        self.assertGreater(min(counts.values()), 20, counts)


class AskedTest(unittest.TestCase):
    def test_fields_that_are_there(self):
        post = other(ask=(" 1 a whole must", " 2 b text must", " 3 c list truth may"), number=9)
        face = own("ask post send", ask=(" 5 b text must", " 6 a whole must", " 7 c list truth may", " 8 d whole may"))
        value = {"a": 3, "b": "x", "c": (True,), "d": 9}
        self.assertEqual(asked(face, (post,), 3, 0, value), {"a": 3, "b": "x", "c": (True,)})
        del value["c"]
        self.assertEqual(asked(face, (post,), 3, 0, value), {"a": 3, "b": "x"})

    def test_every_kind(self):
        for kind in PLAIN + OTHERS:
            for mine in PLAIN + OTHERS:
                for need in ("must", "may"):
                    post = other(ask=(f" 1 x {kind} may",))
                    face = own("ask post send", ask=(f" 2 x {mine} {need}",))
                    value = some_value(face, ("record", "want"), dice_of(1), 9)
                    with self.subTest(kind=kind, mine=mine, need=need):
                        expected = value if kind == mine and kind in PLAIN else {}
                        self.assertEqual(repr_of(asked(face, (post,), 3, 0, value)), repr_of(expected))

    def test_the_place_tells_which_ask(self):
        mint, post = other(name="mint", ask=(" 1 x whole may",)), other(ask=(" 1 y whole may",))
        face = own("copy h x", "ask post send", "ask mint send", ask=(" 1 x whole may", " 2 y whole may"),
                   answer=(" 1 h whole may",))
        value = {"x": 1, "y": 2}
        self.assertEqual(asked(face, (mint, post), 3, 1, value), {"y": 2})
        self.assertEqual(asked(face, (mint, post), 3, 2, value), {"x": 1})
        self.assertEqual(asked(value=value, place=2, number=3, spoken=(mint, post), face=face), {"x": 1})

    def test_a_new_dict_each_time(self):
        post = other(ask=(" 1 x whole may",))
        face = own("ask post send", ask=(" 1 x whole may",))
        value = {"x": 1}
        first = asked(face, (post,), 3, 0, value)
        self.assertIsNot(first, value)
        first["x"] = 5
        first["y"] = 6
        self.assertEqual(value, {"x": 1})
        self.assertEqual(asked(face, (post,), 3, 0, value), {"x": 1})


ASK = (" 1 who text must", " 2 sum whole must", " 3 whom text must", " 4 more whole must", " 5 memo list record inner may")
ANSWER = (" 1 left whole may", " 2 right whole may", " 3 memo list record inner may", " 4 mark whole may", " 5 note text may")
VALUE = {"who": "ada", "sum": 5, "whom": "bob", "more": 7}


def deeds_of(*deeds):
    return own(*deeds, ask=ASK, answer=ANSWER)


class OutcomeTest(unittest.TestCase):
    def comes(self, face, store, expected, *, value=None, spoken=(), answers=None):
        """That a call comes to an outcome, what is handed in stays, and the second reckoning agrees."""
        value = dict(VALUE) if value is None else value
        handed = repr_of([value, store, answers])
        if answers is None:
            found = outcome(face, spoken, 3, value, store=store)
        else:
            found = outcome(face, spoken, 3, value, store=store, answers=answers)
        self.assertEqual(found, expected)
        self.assertEqual(repr_of(found), repr_of(expected))
        self.assertEqual(repr_of([value, store, answers]), handed)
        again = outcome_of(face, spoken, 3, value, store, answers or ())
        self.assertEqual(repr_of(again), repr_of(expected))
        if found[0] == "done":
            self.assertIsNot(found[2], store)
            self.assertIs(is_value(face, "reply", found[1]), True)
        return found

    def test_no_deeds(self):
        self.comes(deeds_of(), {}, ("done", {}, {}))
        self.comes(deeds_of(), {"x": 1, "y": 0}, ("done", {}, {"x": 1}))

    def test_take(self):
        face = deeds_of("take who sum poor")
        self.comes(face, {"ada": 6, "bob": 2}, ("done", {}, {"ada": 1, "bob": 2}))
        self.comes(face, {"ada": 5, "bob": 2}, ("done", {}, {"bob": 2}))
        self.comes(face, {"ada": 4, "bob": 2}, ("fault", "poor"))
        self.comes(face, {"bob": 9}, ("fault", "poor"))
        self.comes(face, {}, ("fault", "poor"))
        self.comes(face, {}, ("done", {}, {}), value={**VALUE, "sum": 0})
        self.comes(face, {"ada": 0}, ("done", {}, {}), value={**VALUE, "sum": 0})
        self.comes(deeds_of("take who sum great"), {}, ("fault", "great"))

    def test_add(self):
        face = deeds_of("add who sum")
        self.comes(face, {}, ("done", {}, {"ada": 5}))
        self.comes(face, {"ada": 1, "x": 0}, ("done", {}, {"ada": 6}))
        self.comes(face, {"ada": 10**9 - 5}, ("done", {}, {"ada": 10**9}))
        self.comes(face, {"ada": 10**9 - 4}, ("fault", "great"))
        self.comes(face, {"ada": 10**9}, ("done", {}, {"ada": 10**9}), value={**VALUE, "sum": 0})
        self.comes(face, {}, ("done", {}, {}), value={**VALUE, "sum": 0})
        self.comes(face, {}, ("done", {}, {"": 10**9}), value={**VALUE, "who": "", "sum": 10**9})

    def test_tell(self):
        face = deeds_of("tell left who", "tell right whom")
        self.comes(face, {"ada": 3}, ("done", {"left": 3, "right": 0}, {"ada": 3}))
        self.comes(face, {"ada": 0, "bob": 10**9}, ("done", {"left": 0, "right": 10**9}, {"bob": 10**9}))

    def test_one_behind_another(self):
        face = deeds_of("tell left who", "add who sum", "tell right who", "take whom more none", "tell mark whom")
        self.comes(face, {"bob": 9}, ("done", {"left": 0, "right": 5, "mark": 2}, {"ada": 5, "bob": 2}))
        self.comes(face, {"bob": 6}, ("fault", "none"))
        # Several on one text.
        same = {**VALUE, "whom": "ada"}
        face = deeds_of("add who sum", "take whom more poor", "tell left who")
        self.comes(face, {"ada": 2}, ("done", {"left": 0}, {}), value=same)
        self.comes(face, {"ada": 1}, ("fault", "poor"), value=same)
        face = deeds_of("take who sum poor", "add whom more", "take who sum thin", "tell left who")
        self.comes(face, {"ada": 5}, ("done", {"left": 2}, {"ada": 2}), value=same)
        self.comes(face, {"ada": 4}, ("fault", "poor"), value=same)
        self.comes(face, {"ada": 5}, ("fault", "thin"), value={**same, "more": 4})
        face = deeds_of("add who sum", "add whom more")
        self.comes(face, {"ada": 10**9 - 12}, ("done", {}, {"ada": 10**9}), value=same)
        self.comes(face, {"ada": 10**9 - 11}, ("fault", "great"), value=same)
        # Down to 0 and up again.
        face = deeds_of("take who sum poor", "tell left who", "add who sum")
        self.comes(face, {"ada": 5}, ("done", {"left": 0}, {"ada": 5}))

    def test_the_first_fault_counts(self):
        face = deeds_of("take who sum poor", "take whom more thin")
        self.comes(face, {}, ("fault", "poor"))
        self.comes(face, {"ada": 5}, ("fault", "thin"))

    def test_copy(self):
        face = deeds_of("copy left sum", "copy note who", "copy memo memo")
        self.comes(face, {}, ("done", {"left": 5, "note": "ada"}, {}))
        memo = ({"n": 1}, {}, {"n": 1})
        self.comes(face, {}, ("done", {"left": 5, "note": "ada", "memo": memo}, {}), value={**VALUE, "memo": memo})

    def test_copies_share_nothing(self):
        memo = ({"n": 1}, {})
        value = {**VALUE, "memo": memo}
        store = {"ada": 1}
        found = outcome(deeds_of("copy memo memo"), (), 3, value, store=store)
        found[1]["memo"][0]["n"] = 99
        found[1]["memo"][1]["more"] = 1
        found[2]["ada"] = 7
        self.assertEqual(value, {**VALUE, "memo": ({"n": 1}, {})})
        self.assertEqual(store, {"ada": 1})
        self.assertEqual(outcome(deeds_of("copy memo memo"), (), 3, value, store=store)[1], {"memo": ({"n": 1}, {})})

    def test_deep_copies_share_nothing(self):
        face = face_of("record r", " 1 x record r may", " 2 y list record r may", " 3 n whole may",
                       "record s", " 1 x record r may", " 2 z record r may",
                       "record w", " 1 x record r may", "call 3 do w s", " copy x x", " copy z x")
        value = {"x": {"x": {"y": ({"n": 1}, {"x": {"n": 2}})}}}
        kept = copy.deepcopy(value)
        found = outcome(face, (), 3, value, store={})
        self.assertEqual(found, ("done", {"x": kept["x"], "z": kept["x"]}, {}))
        found[1]["x"]["x"]["y"][1]["x"]["n"] = 5
        self.assertEqual(value, kept)
        self.assertEqual(found[1]["z"], kept["x"])
        found[1]["z"]["x"]["y"][0].clear()
        self.assertEqual(value, kept)

    def test_deep_values(self):
        face = face_of("record r", " 1 x record r may", "record s", " 1 x record r may", "call 3 do s s", " copy x x")
        value = {}
        for _ in range(79):
            value = {"x": value}
        self.comes_deep(face, value)

    def comes_deep(self, face, value):
        self.assertEqual(outcome(face, (), 3, value, store={}), ("done", value, {}))

    def asking(self):
        mint = other(name="mint", ask=(" 1 sum whole must",), answer=(" 1 sum whole must",), number=2, call="coin")
        post = other(ask=(" 1 who text must", " 2 sum whole must"), answer=(" 1 who text must", " 2 sum whole must"), number=9)
        face = deeds_of("take who sum poor", "ask mint coin", "get left sum", "ask post send", "get right sum", "get note who")
        self.assertEqual(wrong_among(face, (mint, post)), [])
        return face, (mint, post)

    def test_asks(self):
        face, spoken = self.asking()
        first, second = ("ask", "mint", 2, {"sum": 5}), ("ask", "post", 9, {"who": "ada", "sum": 5})
        done = ("done", {"left": 1, "right": 2, "note": "x"}, {"ada": 4})
        one, two = ("done", {"sum": 1}), ("done", {"sum": 2, "who": "x"})
        store = {"ada": 9}
        for kind in (list, tuple):
            self.comes(face, store, first, spoken=spoken, answers=kind([]))
            self.comes(face, store, second, spoken=spoken, answers=kind([one]))
            self.comes(face, store, done, spoken=spoken, answers=kind([one, two]))
            self.comes(face, store, ("fault", "bad"), spoken=spoken, answers=kind([("fault", "bad")]))
            self.comes(face, store, ("fault", "worse"), spoken=spoken, answers=kind([one, ("fault", "worse")]))
        self.comes(face, store, first, spoken=spoken)
        # What is taken ahead comes first, whatever was answered.
        self.comes(face, {"ada": 4}, ("fault", "poor"), spoken=spoken)
        self.comes(face, {}, ("fault", "poor"), spoken=spoken, answers=[one, two])

    def test_a_fault_behind_an_ask(self):
        mint = other(name="mint", number=2, call="coin")
        face = deeds_of("ask mint coin", "take who sum poor", "copy left more")
        self.comes(face, {}, ("ask", "mint", 2, {}), spoken=(mint,))
        self.comes(face, {}, ("fault", "poor"), spoken=(mint,), answers=[("done", {})])
        self.comes(face, {"ada": 5}, ("done", {"left": 7}, {}), spoken=(mint,), answers=[("done", {})])

    def test_a_get_behind_two_asks(self):
        mint = other(name="mint", ask=(" 1 sum whole must",), answer=(" 1 sum whole must",))
        post = other(ask=(" 1 sum whole must",), answer=(" 1 sum whole must",))
        face = deeds_of("ask mint send", "ask post send", "tell mark who", "get left sum")
        self.comes(face, {"ada": 3}, ("done", {"left": 8, "mark": 3}, {"ada": 3}), spoken=(mint, post),
                   answers=[("done", {"sum": 4}), ("done", {"sum": 8})])

    def test_the_number_of_the_edition_spoken(self):
        face = deeds_of("ask post send")
        for number in (1, 9, 30):
            self.comes(face, {}, ("ask", "post", number, {}), spoken=(other(number=number),))

    def test_by_name(self):
        face, spoken = self.asking()
        found = outcome(value=dict(VALUE), number=3, spoken=spoken, face=face, answers=(), store={"ada": 5})
        self.assertEqual(found, ("ask", "mint", 2, {"sum": 5}))
        with self.assertRaises(TypeError):
            outcome(face, spoken, 3, dict(VALUE), {"ada": 5})

    def test_what_is_asked_is_a_new_dict(self):
        face, spoken = self.asking()
        value = dict(VALUE)
        found = outcome(face, spoken, 3, value, store={"ada": 5})
        found[3]["sum"] = 9
        self.assertEqual(value, VALUE)

    def test_by_dice(self):
        dice = dice_of(17)
        counts = {"done": 0, "fault": 0, "ask": 0, "taken": 0}
        for _ in range(120):
            book = dice_book(dice)
            for face in book:
                spoken = tuple({one.name: one for one in sorted(book, key=lambda one: one.name) if one.name != face.name}.values())
                if wrong_among(face, spoken):
                    continue
                for number, call in calls(face).items():
                    self.dice_call(dice, face, spoken, number, call, counts)
        self.assertGreater(min(counts.values()), 50, counts)

    def dice_call(self, dice, face, spoken, number, call, counts):
        faces = {one.name: one for one in spoken}
        for _ in range(4):
            value = dice_value(dice, face, call.ask)
            store = {text: dice.choice((0, 1, 2, 5, 10**9)) for text in ("", "a", "b") if dice.random() < 0.8}
            answers = []
            while True:
                found = outcome(face, spoken, number, value, store=store, answers=answers)
                self.assertEqual(repr_of(found), repr_of(outcome_of(face, spoken, number, value, store, answers)))
                counts[found[0]] += 1
                if found[0] != "ask":
                    break
                goal = faces[found[1]]
                self.assertIs(is_value(goal, calls(goal)[found[2]].ask, found[3]), True)
                counts["taken"] += 1
                if dice.random() < 0.2:
                    answers.append(("fault", "word"))
                else:
                    answers.append(("done", some_value(goal, ("record", calls(goal)[found[2]].answer), dice, 3)))


if __name__ == "__main__":
    unittest.main()
