"""Points 7 and 8: what is wrong with a face."""

import itertools
import unittest

from facehouse.facetexts import show_face
from facehouse.faces import Face
from facehouse.rights import wrong
from tests.samples import bank, face_of

# A face with something of every sort, and nothing wrong.
RIGHT_ROWS = (
    "choice coin", " 1 gold", " 2 tin",
    "record reply", " 1 left whole must", " 2 name text may", " 3 coins list choice coin must", " 4 more whole may",
    " 5 next record reply may",
    "record request", " 1 who text must", " 2 sum whole must", " 3 nick text may", " 4 coins list choice coin must",
    " 5 kids list record request must",
    "record trunk",
    "call 1 draw request reply", " take who sum poor", " tell left who", " copy name nick", " copy coins coins",
    " ask post send", " get more sum",
    "call 2 put request reply", " add who sum", " add who sum", " take who sum poor", " ask post send",
    " get left sum", " copy coins coins",
    "call 3 rest trunk trunk",
    "call 4 peek trunk trunk", " ask post send", " ask mail send", " ask post sendall",
)
# Every kind there is, of what is in CHOICE and BASE, and two of each sort that name others.
KINDS = (
    "whole", "truth", "text", "choice coin", "choice mood", "record box", "record bag",
    "list whole", "list truth", "list text", "list choice coin", "list choice mood", "list record box",
    "list record bag",
)
NEEDS = ("must", "may")


def with_call(asked, answered, *deeds):
    """A face own 1 with the call c, from records with these fields (each NAME KIND NEED)."""
    rows = ["choice coin", " 1 gold", "choice mood", " 1 glad"]
    for record, fields in (("answer", answered), ("ask", asked)):
        rows.append(f"record {record}")
        rows.extend([f" {number} {field}" for number, field in enumerate(fields, 1)])
    rows += ["record bag", "record box", "call 1 c ask answer"]
    return face_of(*rows, *[f" {deed}" for deed in deeds], name="own")


def told(word, found):
    """Of what is wrong that which begins with a word."""
    return [one for one in found if one[0] == word]


class RightsTest(unittest.TestCase):
    def is_wrong(self, face, *expected):
        shown = show_face(face)
        found = wrong(face)
        self.assertEqual(found, list(expected))
        # repr tells a place from a truth, and a tuple from a list.
        self.assertEqual(repr(found), repr(list(expected)))
        self.assertEqual(show_face(face), shown)

    def has(self, word, face, *expected):
        self.assertEqual(told(word, wrong(face)), list(expected))


class TheListTest(RightsTest):
    def test_a_right_face(self):
        self.is_wrong(face_of(*RIGHT_ROWS))
        self.is_wrong(Face("a", 1))
        self.is_wrong(face_of("choice c", " 1 w", "record r"))

    def test_the_samples_face(self):
        self.is_wrong(bank(), ("deed", "put", 3), ("unset", "draw", "parts"))

    def test_argument_by_name(self):
        self.assertEqual(wrong(face=face_of(*RIGHT_ROWS)), [])

    def test_all_five_together_sorted(self):
        rows = (
            "record a", " 1 x choice none must", " 2 y record z may",
            "record b", " 1 x record b must",
            "record q", " 1 t text must",
            "record r", " 1 x whole must", " 2 y whole must",
            "call 1 z q r", " tell x t", " tell x t", " get y f", " ask a c", " add t t",
            "call 2 y q r", " get x t", " get x t",
            "call 3 x q zz", " get x t",
        )
        self.is_wrong(
            face_of(*rows),
            ("deed", "y", 0), ("deed", "y", 1), ("deed", "z", 2), ("deed", "z", 3), ("deed", "z", 4),
            ("endless", "a"), ("endless", "b"),
            ("nobody", "a", "none"), ("nobody", "a", "z"), ("nobody", "x", "zz"),
            ("twice", "y", 1), ("twice", "z", 1),
            ("unset", "y", "y"),
        )

    def test_places_are_sorted_as_numbers(self):
        self.is_wrong(
            with_call((), (), "add f g", "add f g", "add f g", "add f g", "add f g", "add f g"),
            *[("deed", "c", place) for place in range(6)],
        )

    def test_calls_are_told_by_names_in_the_order_of_these(self):
        rows = ("record r", "call 1 z r r", " add f g", "call 2 b r r", " add f g", "call 30 a r r", " add f g")
        self.is_wrong(face_of(*rows), ("deed", "a", 0), ("deed", "b", 0), ("deed", "z", 0))

    def test_a_new_list_each_time(self):
        face = face_of("record r", " 1 x record r must")
        found = wrong(face)
        found.append("more")
        found[0] = "less"
        self.is_wrong(face, ("endless", "r"))
        self.assertEqual(found, ["less", "more"])
        right = wrong(Face("a", 1))
        right.append("more")
        self.assertEqual(wrong(Face("a", 1)), [])


class NobodyTest(RightsTest):
    def test_kinds_in_may_fields(self):
        for kind in ("choice none", "record none", "list choice none", "list record none"):
            with self.subTest(kind):
                self.is_wrong(face_of("record r", f" 1 x {kind} may"), ("nobody", "r", "none"))

    def test_kinds_in_must_fields_have_no_least_value_either(self):
        for kind in ("choice none", "record none", "list choice none", "list record none"):
            with self.subTest(kind):
                self.is_wrong(face_of("record r", f" 1 x {kind} must"), ("endless", "r"), ("nobody", "r", "none"))

    def test_names_of_the_other_sort(self):
        head = ("choice c", " 1 w", "record r")
        for kind, name in (("choice r", "r"), ("record c", "c"), ("list choice r", "r"), ("list record c", "c")):
            with self.subTest(kind):
                self.is_wrong(face_of(*head, f" 1 x {kind} may"), ("nobody", "r", name))
                self.is_wrong(face_of(*head, f" 1 x {kind} must"), ("endless", "r"), ("nobody", "r", name))
        for kind in ("choice c", "record r", "list choice c", "list record r"):
            with self.subTest(kind):
                self.is_wrong(face_of(*head, f" 1 x {kind} may"))

    def test_names_of_words_fields_calls_and_faces_are_nobody(self):
        head = ("choice c", " 1 w", "record r", " 1 x whole may")
        for name in ("w", "x", "d", "a", "whole", "text", "choice", "record", "list"):
            for sort in ("choice", "record"):
                with self.subTest(name=name, sort=sort):
                    face = face_of(*head, f" 2 y {sort} {name} may", "call 1 d r r")
                    self.is_wrong(face, ("nobody", "r", name))

    def test_each_once(self):
        fields = [f" {n} {f} {k} may" for n, f, k in
                  ((1, "a", "choice none"), (2, "b", "record none"), (3, "c", "list choice none"), (4, "d", "choice no"))]
        self.is_wrong(
            face_of("record r", *fields, "record s", *fields),
            ("nobody", "r", "no"), ("nobody", "r", "none"), ("nobody", "s", "no"), ("nobody", "s", "none"),
        )

    def test_ask_and_answer(self):
        for ask, answer, names in (
            ("r", "r", ()),
            ("none", "r", ("none",)),
            ("r", "none", ("none",)),
            ("none", "none", ("none",)),
            ("none", "nobody", ("nobody", "none")),
            ("nobody", "none", ("nobody", "none")),
            ("c", "r", ("c",)),
            ("r", "c", ("c",)),
            ("c", "none", ("c", "none")),
        ):
            with self.subTest(ask=ask, answer=answer):
                face = face_of("choice c", " 1 w", "record r", f"call 1 d {ask} {answer}")
                self.is_wrong(face, *[("nobody", "d", name) for name in names])

    def test_of_such_a_call_no_more_is_told(self):
        deeds = (" add f g", " get x f", " get x f", " ask a c", " ask a c", " tell y x")
        head = ("record r", " 1 x whole must", " 2 z whole must")
        for ask, answer in (("r", "none"), ("none", "r"), ("none", "none")):
            with self.subTest(ask=ask, answer=answer):
                self.is_wrong(face_of(*head, f"call 1 d {ask} {answer}", *deeds), ("nobody", "d", "none"))
        both = face_of(*head, "call 1 d r none", *deeds, "call 2 e r r")
        self.is_wrong(both, ("nobody", "d", "none"), ("unset", "e", "x"), ("unset", "e", "z"))

    def test_a_record_and_a_call_of_one_name_that_name_one_nobody(self):
        self.is_wrong(face_of("record r", " 1 x choice none may", "call 1 r none r"), ("nobody", "r", "none"))

    def test_an_ask_record_with_strangers_is_a_record_all_the_same(self):
        face = face_of("record r", " 1 x choice none may", "call 1 c r r", " add x x")
        self.is_wrong(face, ("deed", "c", 0), ("nobody", "r", "none"))


class EndlessTest(RightsTest):
    def test_itself_by_a_must_field(self):
        self.is_wrong(face_of("record r", " 1 x record r must"), ("endless", "r"))
        self.is_wrong(face_of("record r", " 1 w whole must", " 2 x record r must"), ("endless", "r"))

    def test_itself_by_a_may_field_or_a_list(self):
        for row in (" 1 x record r may", " 1 x list record r may", " 1 x list record r must"):
            with self.subTest(row):
                self.is_wrong(face_of("record r", row))

    def test_rings(self):
        names = "abcdef"
        for many in range(1, 7):
            rows = []
            for at in range(many):
                rows += [f"record {names[at]}", f" 1 x record {names[(at + 1) % many]} must"]
            with self.subTest(many):
                self.is_wrong(face_of(*rows), *[("endless", name) for name in names[:many]])
                for break_at in range(1, 2 * many, 2):
                    for other in ("record a may", "list record a must", "whole must"):
                        broken = rows[:break_at] + [" 1 x " + other] + rows[break_at + 1:]
                        self.is_wrong(face_of(*broken))

    def test_what_leads_into_a_ring(self):
        ring = ("record r", " 1 x record s must", "record s", " 1 x record r must")
        self.is_wrong(face_of("record a", " 1 x record r must", *ring), ("endless", "a"), ("endless", "r"), ("endless", "s"))
        self.is_wrong(face_of(*ring, "record z", " 1 x record s must"), ("endless", "r"), ("endless", "s"), ("endless", "z"))
        for row in (" 1 x record r may", " 1 x list record r must", " 1 x list record r may"):
            self.is_wrong(face_of("record a", row, *ring), ("endless", "r"), ("endless", "s"))

    def test_what_holds_one_without_a_value(self):
        bad = ("record r", " 1 x list choice none must")
        told_so = (("endless", "r"), ("nobody", "r", "none"))
        self.is_wrong(face_of("record a", " 1 x record r must", *bad), ("endless", "a"), *told_so)
        for row in (" 1 x record r may", " 1 x list record r must"):
            self.is_wrong(face_of("record a", row, *bad), *told_so)

    def test_sixty_and_sixty_one_numbers(self):
        # Of a must field: three numbers, and its content: none of 0, False, "", one of a choice and of a list.
        four = [" 1 a whole must", " 2 b truth must", " 3 c text must", " 4 d whole must"]
        outer = ["record z"] + [f" {n} {f} record s must" for n, f in enumerate("abcd", 1)]
        choice = ("choice c", " 7 w")
        self.is_wrong(face_of(*choice, "record s", *four, *outer))
        for kind in ("choice c", "list whole", "list choice c", "list record s"):
            with self.subTest(kind):
                more = face_of(*choice, "record s", *four[:3], f" 4 d {kind} must", *outer)
                self.is_wrong(more, ("endless", "z"))
                last = [f" 4 d {kind} must"]
                just = face_of(
                    *choice, "record s", *four, "record t", *four[:3], *last, *outer[:-1], " 4 d record t must"
                )
                self.is_wrong(just, ("endless", "z"))
        may = face_of(*choice, "record s", *four, " 5 e list text may", *outer, " 5 e whole may")
        self.is_wrong(may)
        self.is_wrong(face_of(*choice, "record s", *four, *outer, " 5 e whole must"), ("endless", "z"))

    def test_records_of_ten_thousand_numbers_and_more(self):
        names = "abcdef"
        rows = []
        for at, name in enumerate(names):
            kind = "whole" if at == 5 else f"record {names[at + 1]}"
            rows += [f"record {name}"] + [f" {n} {f} {kind} must" for n, f in enumerate("vwxyz", 1)]
        self.is_wrong(face_of(*rows), *[("endless", name) for name in "abcde"])


class DeedTest(RightsTest):
    def judged(self, is_right, asked, answered, *deeds, place=0):
        found = told("deed", wrong(with_call(asked, answered, *deeds)))
        with self.subTest(asked=asked, answered=answered, deeds=deeds):
            self.assertEqual(found, [] if is_right else [("deed", "c", place)])

    def fields(self, name):
        """A field of each kind and need, and no field."""
        return [f"{name} {kind} {need}" for kind in KINDS for need in NEEDS] + [None]

    def test_take_and_add(self):
        for deed in ("take f g poor", "add f g"):
            for field_f, field_g in itertools.product(self.fields("f"), self.fields("g")):
                asked = [field for field in (field_f, field_g) if field]
                self.judged((field_f, field_g) == ("f text must", "g whole must"), asked, (), deed)

    def test_take_and_add_look_at_the_ask_alone(self):
        fields = ("f text must", "g whole must")
        for deed in ("take f g poor", "add f g"):
            self.judged(True, fields, (), deed)
            self.judged(True, fields[::-1], (), deed)
            self.judged(False, (), fields, deed)
            self.judged(False, fields[:1], fields, deed)
            self.judged(False, fields[1:], fields, deed)
        for deed in ("take g f poor", "add g f", "take f f poor", "add g g", "take poor g f", "take f h g"):
            self.judged(False, fields, fields, deed)

    def test_any_word_in_a_take(self):
        for word in ("f", "g", "take", "zzzzzzzz"):
            self.judged(True, ("f text must", "g whole must"), (), f"take f g {word}")

    def test_tell(self):
        for field_h, field_f in itertools.product(self.fields("h"), self.fields("f")):
            asked = [field_f] if field_f else []
            answered = [field_h] if field_h else []
            is_right = field_f == "f text must" and field_h in ("h whole must", "h whole may")
            self.judged(is_right, asked, answered, "tell h f")

    def test_tell_has_h_of_the_answer_and_f_of_the_ask(self):
        self.judged(True, ("f text must",), ("h whole must",), "tell h f")
        self.judged(False, ("h whole must",), ("f text must",), "tell h f")
        self.judged(False, ("f text must", "h whole must"), (), "tell h f")
        self.judged(False, (), ("f text must", "h whole must"), "tell h f")
        self.judged(False, ("f text must",), ("h whole must",), "tell f h")
        self.judged(True, ("x text must",), ("x whole may",), "tell x x")

    def test_copy(self):
        for field_h, field_f in itertools.product(self.fields("h"), self.fields("f")):
            asked = [field_f] if field_f else []
            answered = [field_h] if field_h else []
            is_right = False
            if field_h and field_f:
                h, f = field_h.split(), field_f.split()
                is_right = h[1:-1] == f[1:-1] and (f[-1] == "must" or h[-1] == "may")
            self.judged(is_right, asked, answered, "copy h f")

    def test_copy_has_h_of_the_answer_and_f_of_the_ask(self):
        self.judged(True, ("f text must",), ("h text must",), "copy h f")
        self.judged(False, ("f text must",), ("h text must",), "copy f h")
        self.judged(False, ("f text must", "h text must"), (), "copy h f")
        self.judged(False, (), ("f text must", "h text must"), "copy h f")
        self.judged(True, ("x text must",), ("x text must",), "copy x x")

    def test_copy_within_one_record(self):
        rows = ("record r", " 1 x text must", " 2 y text may", "call 1 c r r")
        self.is_wrong(face_of(*rows, " copy x x", " copy y y"))
        self.is_wrong(face_of(*rows, " copy y x", " copy x x"))
        self.is_wrong(face_of(*rows, " copy x y"), ("deed", "c", 0))

    def test_copy_of_kinds_that_name_nobody(self):
        # They are of one kind where they are alike, although nobody has values of it.
        self.judged(True, ("f choice none must",), ("h choice none must",), "copy h f")
        self.judged(True, ("f list record none may",), ("h list record none may",), "copy h f")
        self.judged(False, ("f choice none must",), ("h choice nobody must",), "copy h f")
        self.judged(False, ("f choice none must",), ("h record none must",), "copy h f")

    def test_ask(self):
        self.judged(True, (), (), "ask other c")
        self.judged(True, (), (), "ask owns c")
        self.judged(True, (), (), "ask c own")
        self.judged(False, (), (), "ask own c")
        self.judged(False, (), (), "ask own nobody")
        self.judged(False, (), (), "ask other c", "ask own c", place=1)

    def test_get(self):
        for kind, need in itertools.product(KINDS, NEEDS):
            answered = [f"h {kind} {need}"]
            self.judged(True, (), answered, "ask other c", "get h g", place=1)
            self.judged(False, (), answered, "get h g")
            self.judged(False, (), answered, "get h g", "ask other c")
        self.judged(False, ("h whole must",), (), "ask other c", "get h g", place=1)
        self.judged(False, (), ("g whole must",), "ask other c", "get h g", place=1)
        self.judged(False, (), (), "ask other c", "get h g", place=1)

    def test_get_behind_any_ask_ahead(self):
        h = ("h whole must", "g whole may")
        self.judged(True, (), h, "ask other c", "get g x", "get h x")
        self.judged(True, ("f text must", "n whole must"), h, "ask other c", "add f n", "tell g f", "get h x")
        face = with_call((), h, "get g x", "ask other c", "get h x")
        self.is_wrong(face, ("deed", "c", 0))
        # An ask of the own face isn't as told, but asks.
        self.is_wrong(with_call((), h[:1], "ask own c", "get h x"), ("deed", "c", 0))

    def test_an_ask_of_another_call_is_none_ahead(self):
        rows = ("record r", " 1 h whole must", "call 1 c r r", " ask other c", " get h g", "call 2 d r r", " get h g")
        self.is_wrong(face_of(*rows), ("deed", "d", 0))

    def test_each_place_is_looked_at(self):
        right = "add f n"
        for at in range(6):
            deeds = [right] * at + ["add n f"] + [right] * (5 - at)
            face = with_call(("f text must", "n whole must"), (), *deeds)
            self.is_wrong(face, ("deed", "c", at))


class TwiceTest(RightsTest):
    asked = ("f text must", "n whole must")
    answered = ("h whole may", "k whole may")

    def test_every_two_that_set_one_field(self):
        setters = ("tell {} f", "copy {} n", "get {} x")
        for one, other in itertools.product(setters, setters):
            with self.subTest(one=one, other=other):
                same = with_call(self.asked, self.answered, "ask other c", one.format("h"), other.format("h"))
                self.is_wrong(same, ("twice", "c", 2))
                unlike = with_call(self.asked, self.answered, "ask other c", one.format("h"), other.format("k"))
                self.is_wrong(unlike)

    def test_each_behind_the_first(self):
        face = with_call(self.asked, self.answered, "tell h f", "tell k f", "copy h n", "add f n", "tell k f", "tell h f")
        self.is_wrong(face, ("twice", "c", 2), ("twice", "c", 4), ("twice", "c", 5))

    def test_asks(self):
        self.is_wrong(with_call((), (), "ask x c", "ask x c"), ("twice", "c", 1))
        self.is_wrong(with_call((), (), "ask x c", "ask y c", "ask x d", "ask c x"))
        face = with_call((), (), "ask x c", "ask y c", "ask x c", "ask x d", "ask y c", "ask x c")
        self.is_wrong(face, ("twice", "c", 2), ("twice", "c", 4), ("twice", "c", 5))

    def test_asks_of_the_own_face(self):
        face = with_call((), (), "ask own c", "ask own c")
        self.is_wrong(face, ("deed", "c", 0), ("deed", "c", 1), ("twice", "c", 1))

    def test_never_where_h_is_no_field_of_the_answer(self):
        for deed in ("tell f f", "copy f f", "get f f", "tell z f", "copy z n", "get z x"):
            with self.subTest(deed):
                face = with_call(self.asked, self.answered, "ask other c", deed, deed, deed)
                self.is_wrong(face, ("deed", "c", 1), ("deed", "c", 2), ("deed", "c", 3))

    def test_deeds_that_are_not_as_told_set_all_the_same(self):
        for bad in ("tell h n", "copy h f", "copy h z", "get h x", "tell h z"):
            with self.subTest(bad):
                self.is_wrong(with_call(self.asked, self.answered, bad, "tell h f"), ("deed", "c", 0), ("twice", "c", 1))
                self.is_wrong(with_call(self.asked, self.answered, "tell h f", bad), ("deed", "c", 1), ("twice", "c", 1))

    def test_take_and_add_never(self):
        both = self.asked
        self.is_wrong(with_call(both, (), "add f n", "add f n", "take f n w", "take f n w"))
        # Their F and G may bear names of the answer's fields.
        self.is_wrong(with_call(both, ("f text may", "n whole may"), "add f n", "take f n w", "copy f f", "copy n n"))

    def test_an_ask_that_is_named_as_a_field(self):
        self.is_wrong(with_call(self.asked, self.answered, "ask h f", "tell h f", "ask h k", "tell k f"))
        # What sets a field isn't what asks a face of a like name.
        self.is_wrong(with_call(("f text must",), ("set whole may",), "tell set f", "ask set f"))

    def test_another_call_counts_for_itself(self):
        rows = ("record q", " 1 f text must", "record r", " 1 h whole must")
        calls = ("call 1 c q r", " ask o c", " tell h f", "call 2 d q r", " ask o c", " tell h f")
        self.is_wrong(face_of(*rows, *calls))


class UnsetTest(RightsTest):
    def test_each_must_field(self):
        answered = [f"{name} whole {need}" for name, need in zip("abcde", ("must", "may", "must", "may", "must"))]
        asked = ("f text must",)
        self.is_wrong(with_call(asked, answered), *[("unset", "c", name) for name in "ace"])
        self.is_wrong(with_call(asked, answered, "tell c f"), ("unset", "c", "a"), ("unset", "c", "e"))
        self.is_wrong(with_call(asked, answered, "tell c f", "tell e f", "tell a f"))
        self.is_wrong(with_call(asked, answered, "tell b f", "tell d f"), *[("unset", "c", name) for name in "ace"])

    def test_each_word_that_sets(self):
        asked, answered = ("f text must", "n whole must"), ("h whole must",)
        for deed in ("tell h f", "copy h n", "get h x"):
            self.is_wrong(with_call(asked, answered, "ask other c", deed))
        for deed in ("add f n", "take f n h", "ask h h"):
            self.is_wrong(with_call(asked, answered, deed), ("unset", "c", "h"))

    def test_of_every_kind(self):
        for kind in KINDS:
            self.is_wrong(with_call((), (f"h {kind} must",)), ("unset", "c", "h"))
            self.is_wrong(with_call((), (f"h {kind} may",)))

    def test_deeds_that_are_not_as_told_set_all_the_same(self):
        for deed in ("tell h z", "copy h z", "get h z"):
            self.is_wrong(with_call((), ("h text must",), deed), ("deed", "c", 0))

    def test_fields_of_the_ask_need_not_be_set(self):
        self.is_wrong(with_call(("h text must",), ()))
        self.is_wrong(with_call(("h text must",), ("h text must",)), ("unset", "c", "h"))

    def test_each_call_for_itself(self):
        rows = ("record q", " 1 f text must", "record r", " 1 h whole must")
        calls = ("call 1 c q r", " tell h f", "call 2 d q r", "call 3 b r q", "call 4 e r r", " copy h h")
        self.is_wrong(face_of(*rows, *calls), ("unset", "b", "f"), ("unset", "d", "h"))


if __name__ == "__main__":
    unittest.main()
