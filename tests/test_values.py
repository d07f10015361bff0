"""Points 2 and 9: which things are values of a face's record, and the least ones."""

import copy
import unittest

from facehouse.errors import NoName
from facehouse.faces import Face
from facehouse.rights import wrong
from facehouse.values import is_value, least
from tests.reference import body_of, dice_of, some_value
from tests.samples import any_things, bank, face_of, nested

SIGNS = "".join([chr(code) for code in range(32, 127) if code != 37])
# Things that are no values of any kind.
NOTHINGS = (
    None, -1, 10**9 + 1, 10**29, -(10**29), "\n", "a\nb", "%", "50%", "\t", "\x7f", "\x1f", "\u00e9", "\x80", b"", b"a",
    1.0, 0.0, [], [1], [[]], {"zz": 1}, {"": 0}, {1: 1}, {None: None}, (None,), ((),), ([],), ({"zz": 1},), ("%",),
    (-1,), (10**9 + 1,), frozenset(), set(),
)
NOBODIES = ("choice none", "record none", "choice r", "record c", "list choice none", "list record none")

# Five must fields each, found by trial: the least values of f have bodies of just 10,000 and of 10,001 numbers.
JUST_FITTING = ("wllll", "llaaw", "bbbba", "clccc", "ddbdd", "ecdec")
ONE_TOO_GREAT = ("wlwlw", "laaaa", "abbbl", "caccc", "dddbd", "weebc")


def of_kind(kind, need="must"):
    """A face whose record r has one field x of a kind."""
    choices = ("choice c", " 1 gold", " 4 tin", "choice d", " 30 lead")
    return face_of(*choices, "record e", "record m", " 1 x whole must", "record r", f" 7 x {kind} {need}")


def tree(shape):
    """A face of six records with must fields alone: w a whole, l a list, a to e the records ahead."""
    kinds = {"w": "whole", "l": "list text"}
    rows = []
    for record, fields in zip("abcdef", shape):
        rows.append(f"record {record}")
        rows += [f" {n} {f} {kinds.get(k, 'record ' + k)} must" for n, (f, k) in enumerate(zip("vwxyz", fields), 1)]
    return face_of(*rows)


RING = ("record r", " 1 next record r may", " 2 rest list record r may", " 3 word text may", " 4 words list text may")


def chain(links, end):
    """Records and lists within one another: r a record by next, l a list and a record in it by rest."""
    value = end
    for link in reversed(links):
        value = {"next": value} if link == "r" else {"rest": (value,)}
    return value


GREAT = (
    "record big", " 1 a list record row may", " 2 b list record row may", " 3 c list record row may",
    " 4 d list text may", " 5 e list text may",
    "record row", *[f" {n} {f} list text may" for n, f in enumerate("abcde", 1)],
)


def great(more=0):
    """A value of the record big of GREAT whose body has 10,000 numbers, and some more."""
    texts = ("x" * 20,) * 6
    row = {name: texts for name in "abcde"}
    rest = ("x" * 20, "x" * 20, "x" * 20, "x" * (7 + more))
    return {"a": (row,) * 6, "b": (row,) * 6, "c": (row,) * 3, "d": texts, "e": rest}


class ValuesTest(unittest.TestCase):
    def value(self, face, record, thing):
        self.asked(True, face, record, thing)

    def none(self, face, record, thing):
        self.asked(False, face, record, thing)

    def asked(self, expected, face, record, thing):
        shown = repr(thing)[:100000]
        self.assertIs(is_value(face, record, thing), expected, shown[:100])
        self.assertEqual(repr(thing)[:100000], shown)


class KindsTest(ValuesTest):
    def judge(self, kind, values, others):
        """Of a kind these are values, and the others, and NOTHINGS, are none; in lists and records, too."""
        must, may, listed = of_kind(kind), of_kind(kind, "may"), of_kind(f"list {kind}")
        for value in values:
            with self.subTest(kind=kind, value=value):
                self.value(must, "r", {"x": value})
                self.value(may, "r", {"x": value})
                self.value(listed, "r", {"x": (value,)})
                self.value(listed, "r", {"x": (values[0], value, values[-1])})
        for thing in tuple(others) + NOTHINGS:
            with self.subTest(kind=kind, thing=thing):
                self.none(must, "r", {"x": thing})
                self.none(may, "r", {"x": thing})
                self.none(listed, "r", {"x": (thing,)})
                self.none(listed, "r", {"x": (values[0], thing, values[-1])})
        self.none(must, "r", {})
        self.value(may, "r", {})
        self.value(listed, "r", {"x": ()})

    def test_whole(self):
        values = (0, 1, 2, 199, 200, 255, 256, 65535, 65536, 10**9 - 1, 10**9)
        self.judge("whole", values, (True, False, "", "0", "1", (), (0,), {}, {"x": 0}, [0]))

    def test_truth(self):
        self.judge("truth", (True, False), (0, 1, 2, "", "True", "true", (), (True,), {}, [True]))

    def test_text(self):
        texts = ("", " ", "~", "a" * 19, "a" * 20, " " * 20, "~" * 20, "!" * 20, "$&", "\\", "\"", "'", "0", "None")
        texts += tuple(SIGNS) + (SIGNS[:20], SIGNS[20:40], SIGNS[40:60], SIGNS[60:80], SIGNS[80:])
        others = ["a" * 21, " " * 21, "a" * 400, 0, 1, True, (), ("a",), {}, ["a"], ("", "")]
        others += ["a" * 19 + bad for bad in ("%", "\n", "\x7f", "\u0131")] + ["%" + "a" * 19, "\n" + "a" * 19]
        others += [chr(code) for code in range(0, 400) if chr(code) not in SIGNS]
        self.judge("text", texts, others)

    def test_choice(self):
        others = ("", "lead", "Gold", "gold ", " gold", "gol", "golds", "c", "1", "4", 1, 4, True, 0, (), ("gold",), {})
        self.judge("choice c", ("gold", "tin"), others + (["gold"],))
        self.judge("choice d", ("lead",), ("gold", "tin", "d", 30, "30", 0, 1, True, ()))

    def test_record(self):
        nearly = ({"x": True}, {"x": -1}, {"x": 0, "y": 0}, {"y": 0}, {"X": 0}, {"x ": 0}, {"x": 0, "": 0}, {})
        others = nearly + ((), 0, "", ("x",), [("x", 0)], (("x", 0),), "x", True, False)
        self.judge("record m", ({"x": 0}, {"x": 10**9}), others)
        self.judge("record e", ({},), ((), [], "", 0, False, {"x": 0}, {"": {}}))

    def test_list(self):
        for kind, one in (("whole", 0), ("truth", False), ("text", ""), ("choice c", "tin"), ("record m", {"x": 3})):
            face = of_kind(f"list {kind}")
            for many in range(10):
                with self.subTest(kind=kind, many=many):
                    self.asked(many <= 6, face, "r", {"x": (one,) * many})
                    self.none(face, "r", {"x": [one] * many})
                    self.none(face, "r", {"x": (one,) * many + (None,)})
            for thing in (one, [one], ((one,),), {"x": one}, {}, "", "x", 0, None, True, frozenset()):
                with self.subTest(kind=kind, thing=thing):
                    self.none(face, "r", {"x": thing})

    def test_each_place_of_a_list_is_looked_at(self):
        face = of_kind("list whole")
        for at in range(6):
            self.none(face, "r", {"x": (1,) * at + (True,) + (1,) * (5 - at)})

    def test_texts_and_tuples_are_no_lists_of_one_another(self):
        self.none(of_kind("list text"), "r", {"x": "abc"})
        self.none(of_kind("text"), "r", {"x": ("a", "b")})

    def test_kinds_that_name_nobody(self):
        things = NOTHINGS + (0, 1, True, "", "gold", "none", "c", "r", (), ("gold",), {}, ({},), {"x": 0})
        for kind in NOBODIES:
            for thing in things:
                with self.subTest(kind=kind, thing=thing):
                    self.none(of_kind(kind), "r", {"x": thing})
                    self.none(of_kind(kind, "may"), "r", {"x": thing})
            self.none(of_kind(kind), "r", {})
            self.value(of_kind(kind, "may"), "r", {})

    def test_a_list_of_records_that_have_no_value_may_be_empty(self):
        face = face_of("record r", " 1 x list record s must", "record s", " 1 y choice none must")
        self.value(face, "r", {"x": ()})
        self.none(face, "r", {"x": ({},)})
        self.none(face, "r", {"x": ({"y": "none"},)})


class RecordsTest(ValuesTest):
    face = face_of(
        "choice coin", " 1 gold", " 4 tin",
        "record empty",
        "record inner", " 1 n whole must", " 2 t text may",
        "record outer", " 1 a whole must", " 2 b text may", " 3 c record inner must", " 9 d list record inner may",
        " 30 e choice coin must",
    )
    least = {"a": 0, "c": {"n": 0}, "e": "gold"}
    most = {"a": 1, "b": "b", "c": {"n": 2, "t": ""}, "d": ({"n": 3}, {"n": 4, "t": "z"}), "e": "tin"}

    def test_must_and_may_fields(self):
        for may in ({}, {"b": ""}, {"d": ()}, {"b": "", "d": ()}):
            self.value(self.face, "outer", {**self.least, **may})
        for name in self.least:
            self.none(self.face, "outer", {key: self.least[key] for key in self.least if key != name})
            self.none(self.face, "outer", {key: self.most[key] for key in self.most if key != name})
        self.value(self.face, "outer", self.most)

    def test_a_field_too_many(self):
        for name in ("f", "", "A", "n", "1", "outer", "coin", "a ", "z" * 400):
            for thing in (0, "", None, {}, ()):
                self.none(self.face, "outer", {**self.least, name: thing})
                self.none(self.face, "outer", {**self.most, name: thing})
                self.none(self.face, "outer", {**self.least, "c": {"n": 0, name if name != "n" else "m": thing}})
                self.none(self.face, "empty", {name: thing})

    def test_a_field_for_another(self):
        for name in self.least:
            rest = {key: self.least[key] for key in self.least if key != name}
            self.none(self.face, "outer", {**rest, "f": self.least[name]})
            self.none(self.face, "outer", {**rest, "b": "", "d": ()})

    def test_keys_that_are_no_texts_of_the_record(self):
        for key in (0, 1, True, None, ("a",), 1.5, b"a", 30):
            self.none(self.face, "outer", {**self.least, key: 0})
            self.none(self.face, "empty", {key: 0})
            self.none(self.face, "inner", {key: 0})

    def test_the_order_of_the_fields_is_nothing(self):
        self.value(self.face, "outer", dict(reversed(self.most.items())))

    def test_something_wrong_within(self):
        for name, thing in (("a", True), ("b", 0), ("c", {}), ("c", {"n": None}), ("d", ({},)), ("d", ({"n": 0}, {})),
                            ("d", [{"n": 0}]), ("d", {"n": 0}), ("e", "lead"), ("e", 1), ("c", ({"n": 0},))):
            self.none(self.face, "outer", {**self.most, name: thing})

    def test_each_record_has_its_own_values(self):
        self.value(self.face, "inner", {"n": 0})
        self.none(self.face, "outer", {"n": 0})
        self.none(self.face, "empty", {"n": 0})
        self.value(self.face, "empty", {})
        self.none(self.face, "inner", {})

    def test_arguments_by_name(self):
        self.assertIs(is_value(face=self.face, record="inner", thing={"n": 0}), True)
        self.assertIs(is_value(thing={}, record="inner", face=self.face), False)
        self.assertEqual(least(face=self.face, record="outer"), self.least)
        self.assertEqual(least(record="inner", face=self.face), {"n": 0})

    def test_any_thing(self):
        things = any_things() + [nested(depth) for depth in range(120)] + list(NOTHINGS)
        things += ["", "outer", 0, 1, "x" * 400, (0,) * 300, [0] * 300, {str(key): key for key in range(300)}]
        for thing in things:
            for record in ("outer", "inner"):
                self.none(self.face, record, thing)
            self.asked(thing == {} and isinstance(thing, dict), self.face, "empty", thing)
            self.none(self.face, "outer", {**self.least, "c": thing})
            self.none(self.face, "outer", {**self.least, "d": (thing,)})

    def test_random_values_are_values(self):
        dice = dice_of(9)
        face = bank()
        for _ in range(300):
            record = dice.choice(face.records)[0]
            value = some_value(face, ("record", record), dice, 12)
            self.value(face, record, value)


class NoNameTest(ValuesTest):
    def refused(self, face, name):
        for ask in (lambda: is_value(face, name, {}), lambda: is_value(face, name, None), lambda: least(face, name)):
            shown = repr(name)
            with self.assertRaises(NoName) as caught:
                ask()
            self.assertIs(type(caught.exception), NoName)
            self.assertIs(caught.exception.name, name)
            self.assertEqual(repr(name), shown)

    def test_no_record_of_this_name(self):
        strangers = ["", "nobody", "Reply", "reply ", "repl", "coin", "mood", "draw", "gold", "left", "bank", 0, 1, -1]
        for name in any_things() + strangers + [nested(100), 10**29, "\n", "x" * 400]:
            with self.subTest(repr(name)[:40]):
                self.refused(bank(), name)
                self.refused(Face("a", 1), name)

    def test_of_faces_that_are_not_right(self):
        self.refused(face_of("record r", " 1 x choice none must"), "none")
        self.refused(face_of("record r", " 1 x record none must"), "none")
        self.refused(face_of("call 1 c r r"), "r")


class DepthTest(ValuesTest):
    face = face_of(*RING)

    def test_eighty_and_eighty_one_records(self):
        for many in (1, 2, 79, 80, 81, 82, 100):
            with self.subTest(many):
                self.asked(many <= 80, self.face, "r", chain("r" * (many - 1), {}))
                self.asked(many <= 80, self.face, "r", chain("r" * (many - 1), {"word": "x"}))

    def test_lists_count_too(self):
        for links, depth in (("l" * 39, 79), ("l" * 40, 81), ("l" * 39 + "r", 80), ("r" + "l" * 39, 80),
                             ("rr" + "l" * 39, 81), ("l" * 38 + "rrr", 80), ("l" * 38 + "rrrr", 81), ("l" * 50, 101)):
            with self.subTest(links):
                self.asked(depth <= 80, self.face, "r", chain(links, {}))

    def test_a_list_at_the_end_counts_too(self):
        for end in ({"words": ()}, {"words": ("x",)}, {"rest": ()}):
            self.value(self.face, "r", chain("r" * 78, end))
            self.none(self.face, "r", chain("r" * 79, end))
            self.value(self.face, "r", chain("l" * 39, end))
            self.none(self.face, "r", chain("l" * 39 + "r", end))

    def test_what_lies_side_by_side_does_not_count(self):
        deep = chain("r" * 78, {})
        self.value(self.face, "r", {"next": deep, "rest": ({}, {}, {}), "words": ("", "")})
        self.none(self.face, "r", {"next": deep, "rest": (chain("r" * 78, {}),)})
        self.value(self.face, "r", {"next": deep, "rest": (chain("r" * 77, {}),)})

    def test_something_wrong_deep_down(self):
        for depth in (1, 40, 79):
            for end in ({"word": 1}, {"word": "%"}, {"none": 1}, {"next": None}, {"rest": [{}]}):
                self.none(self.face, "r", chain("r" * depth, end))
                self.none(self.face, "r", chain("l" * (depth // 2), end))


class SizeTest(ValuesTest):
    def test_bodies_of_ten_thousand_numbers_and_more(self):
        face = face_of(*GREAT)
        for more in (-7, -1, 0, 1, 2, 13):
            with self.subTest(more):
                self.assertEqual(len(body_of(face, "big", great(more))), 10000 + more)
                self.asked(more <= 0, face, "big", great(more))

    def test_just_fitting_and_one_too_great_in_many_shapes(self):
        face = face_of(*GREAT)
        dice = dice_of(10)
        for _ in range(40):
            value = great()
            for _ in range(4):
                name = dice.choice("abc")
                rows = [dict(row) for row in value[name]]
                dice.choice(rows)[dice.choice("abcde")] = ("y" * dice.choice((18, 19)),) * 6
                value[name] = tuple(rows)
            pads = 10000 - len(body_of(face, "big", {**value, "e": ()}))
            for more in (0, 1):
                whole, rest = divmod(pads + more, 21)
                value["e"] = ("z" * 20,) * whole + (("z" * (rest - 1),) if rest else ())
                self.assertEqual(len(body_of(face, "big", value)), 10000 + more)
                self.asked(more == 0, face, "big", value)

    def test_whatever_is_a_number_too_great_at_the_end(self):
        for kind, fitting, greater in (
            ("text", "", "x"), ("text", "x" * 19, "x" * 20), ("whole", 0, 1), ("whole", 255, 256), ("whole", 65535, 10**6),
            ("truth", False, True), ("list text", (), ("",)), ("list whole", (0,), (1,)), ("list truth", (), (False,)),
            ("record little", {"x": ""}, {"x": "x"}), ("list record little", ({},), ({}, {})),
        ):
            face = face_of(*GREAT[:5], f" 5 e {kind} may", "record little", " 1 x text may", *GREAT[6:])
            value = great()
            value["c"] += ({"a": ("x" * 20,) * 6},)
            whole, rest = divmod(10000 - len(body_of(face, "big", {**value, "d": (), "e": fitting})), 21)
            value["d"] = ("z" * 20,) * whole + (("z" * (rest - 1),) if rest else ())
            with self.subTest(kind=kind, fitting=fitting):
                self.assertEqual(len(body_of(face, "big", {**value, "e": fitting})), 10000)
                self.value(face, "big", {**value, "e": fitting})
                self.assertEqual(len(body_of(face, "big", {**value, "e": greater})), 10001)
                self.none(face, "big", {**value, "e": greater})

    def test_much_too_great(self):
        face = face_of(*GREAT)
        row = {name: ("x" * 20,) * 6 for name in "abcde"}
        self.none(face, "big", {"a": (row,) * 6, "b": (row,) * 6, "c": (row,) * 6})

    def test_the_same_thing_many_times_over(self):
        # Without an end in good time this would take longer than there is time.
        face = face_of("record r", " 1 a record r may", " 2 b record r may", " 3 c list record r may")
        both, listed = {}, {}
        for _ in range(79):
            both = {"a": both, "b": both}
        for _ in range(39):
            listed = {"c": (listed,) * 6}
        # (Nor is there time to show these things, so they are asked for straight.)
        self.assertIs(is_value(face, "r", both), False)
        self.assertIs(is_value(face, "r", listed), False)
        small = {}
        for _ in range(10):
            small = {"a": small, "b": small}
        self.value(face, "r", small)
        self.none(face, "r", {"a": small, "b": small, "c": (small,)})


class LeastTest(ValuesTest):
    def told(self, face, record, expected):
        found = least(face, record)
        self.assertEqual(found, expected)
        # repr tells False from 0, and a tuple from a list.
        self.assertEqual(repr(found), repr(expected))
        if expected is not None:
            self.value(face, record, found)

    def test_each_kind(self):
        for kind, thing in (("whole", 0), ("truth", False), ("text", ""), ("choice c", "gold"), ("choice d", "lead"),
                            ("record e", {}), ("record m", {"x": 0}), ("list whole", ()), ("list truth", ()),
                            ("list text", ()), ("list choice c", ()), ("list record m", ()), ("list record r", ())):
            with self.subTest(kind):
                self.told(of_kind(kind), "r", {"x": thing})
                self.told(of_kind(kind, "may"), "r", {})

    def test_the_first_word_is_that_of_the_least_number(self):
        face = face_of("choice c", " 9 zinc", " 10 alum", "record r", " 1 x choice c must")
        self.told(face, "r", {"x": "zinc"})

    def test_records_within_records(self):
        self.told(RecordsTest.face, "outer", RecordsTest.least)
        self.told(RecordsTest.face, "inner", {"n": 0})
        self.told(RecordsTest.face, "empty", {})
        self.told(bank(), "request", {"who": "", "sum": 0})

    def test_rings(self):
        must = ("record r", " 1 x record s must", "record s", " 1 x record t must", "record t", " 1 x record r must")
        for record in "rst":
            self.told(face_of(*must), record, None)
        for row in (" 1 x record r may", " 1 x list record r must"):
            face = face_of(*must[:-1], row)
            bottom = {} if row.endswith("may") else {"x": ()}
            self.told(face, "t", bottom)
            self.told(face, "s", {"x": bottom})
            self.told(face, "r", {"x": {"x": bottom}})
        self.told(face_of("record r", " 1 x record r must", " 2 y whole must"), "r", None)
        self.told(face_of(*RING), "r", {})

    def test_what_holds_a_ring(self):
        ring = ("record r", " 1 x record r must", "record s")
        self.told(face_of(*ring, " 1 y whole must", " 2 x record r must"), "s", None)
        self.told(face_of(*ring, " 1 y whole must", " 2 x record r may"), "s", {"y": 0})
        self.told(face_of(*ring, " 1 y whole must", " 2 x list record r must"), "s", {"y": 0, "x": ()})

    def test_kinds_that_name_nobody(self):
        for kind in NOBODIES:
            self.told(of_kind(kind), "r", None)
            self.told(of_kind(kind, "may"), "r", {})
            face = face_of("choice c", " 1 w", "record q", " 1 y record r must", "record r", f" 1 x {kind} must")
            self.told(face, "q", None)

    def test_of_ten_thousand_numbers_and_of_one_more(self):
        fitting = tree(JUST_FITTING)
        found = least(fitting, "f")
        self.assertEqual(len(body_of(fitting, "f", found)), 10000)
        self.value(fitting, "f", found)
        self.told(tree(ONE_TOO_GREAT), "f", None)
        self.assertEqual(len(body_of(tree(ONE_TOO_GREAT), "e", least(tree(ONE_TOO_GREAT), "e"))), 4807)

    def test_much_too_great(self):
        full = tree(("wwwww", "aaaaa", "bbbbb", "ccccc", "ddddd", "eeeee"))
        self.told(full, "f", None)
        self.told(full, "e", None)
        self.assertEqual(len(body_of(full, "d", least(full, "d"))), 2345)

    def test_a_least_value_that_is_too_great_for_a_right_face_is_told(self):
        face = tree(("wwwww", "aaaaa", "w", "w", "w", "w"))
        self.assertIn(("endless", "b"), wrong(face))
        self.told(face, "b", {name: {field: 0 for field in "vwxyz"} for name in "vwxyz"})

    def test_told_dicts_are_the_askers_own(self):
        face = tree(("ww", "aa", "bb", "w", "w", "w"))
        first = least(face, "c")
        kept = copy.deepcopy(first)
        self.assertIsNot(first["v"], first["w"])
        self.assertIsNot(first["v"]["v"], first["w"]["w"])
        first["v"]["v"]["v"] = 7
        self.assertEqual(first["v"]["w"], {"v": 0, "w": 0})
        self.assertEqual(first["w"], kept["w"])
        first["w"].clear()
        first["more"] = 1
        self.assertEqual(least(face, "c"), kept)
        second = least(face, "c")
        least(face, "c")["v"].clear()
        self.assertEqual(second, kept)

    def test_the_face_stays_as_it_was(self):
        face = bank()
        least(face, "request")["who"] = 1
        is_value(face, "request", {})
        self.assertEqual(face, bank())


if __name__ == "__main__":
    unittest.main()
