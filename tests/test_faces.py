"""Points 2, 4 and 5: faces, what they are equal to, and what they tell."""

import unittest
import unittest.mock

from facehouse.errors import NoCall, NoName
from facehouse.faces import Face
from tests import samples
from tests.samples import BANK_CALLS, BANK_CHOICES, BANK_RECORDS, any_things, bank


class MadeTest(unittest.TestCase):
    def test_five_fields(self):
        face = bank()
        self.assertEqual(face.name, "bank")
        self.assertEqual(face.edition, 2)
        self.assertEqual(face.choices, BANK_CHOICES)
        self.assertEqual(face.records, BANK_RECORDS)
        self.assertEqual(face.calls, BANK_CALLS)

    def test_what_is_left_out_is_empty(self):
        face = Face("bank", 2)
        self.assertEqual((face.choices, face.records, face.calls), ((), (), ()))
        only_choices = Face("bank", 2, choices=BANK_CHOICES)
        self.assertEqual((only_choices.choices, only_choices.records, only_choices.calls), (BANK_CHOICES, (), ()))
        only_records = Face("bank", 2, records=BANK_RECORDS)
        self.assertEqual((only_records.choices, only_records.records, only_records.calls), ((), BANK_RECORDS, ()))
        only_calls = Face("bank", 2, calls=BANK_CALLS)
        self.assertEqual((only_calls.choices, only_calls.records, only_calls.calls), ((), (), BANK_CALLS))

    def test_made_by_names_in_either_order(self):
        by_names = Face(name="bank", edition=2, choices=BANK_CHOICES, records=BANK_RECORDS, calls=BANK_CALLS)
        turned = Face(calls=BANK_CALLS, records=BANK_RECORDS, choices=BANK_CHOICES, edition=2, name="bank")
        for face in (by_names, turned):
            self.assertEqual((face.name, face.edition), ("bank", 2))
            self.assertEqual((face.choices, face.records, face.calls), (BANK_CHOICES, BANK_RECORDS, BANK_CALLS))
        self.assertEqual(Face("bank", edition=2), Face(edition=2, name="bank"))

    def test_behind_the_star_by_name_alone(self):
        with self.assertRaises(TypeError):
            Face("bank", 2, ())
        with self.assertRaises(TypeError):
            Face("bank", 2, (), (), ())

    def test_repr(self):
        self.assertEqual(repr(bank()), "Face(bank 2)")
        self.assertEqual(repr(Face("abcdefgh", 99)), "Face(abcdefgh 99)")


class EqualTest(unittest.TestCase):
    def others(self):
        parts = {"choices": BANK_CHOICES, "records": BANK_RECORDS, "calls": BANK_CALLS}
        yield Face("banks", 2, **parts)
        yield Face("bank", 3, **parts)
        for part, whole in parts.items():
            yield Face("bank", 2, **{**parts, part: ()})
            yield Face("bank", 2, **{**parts, part: whole[:-1]})
        yield Face("bank", 2, **{**parts, "choices": (("coin", ((1, "gold"), (4, "lead"))), BANK_CHOICES[1])})
        other_fields = ((1, "left", "whole", "must"), samples.REPLY_FIELDS[1])
        yield Face("bank", 2, **{**parts, "records": (("reply", other_fields),) + BANK_RECORDS[1:]})
        other_call = samples.DRAW[:4] + ((("take", "who", "sum", "rich"), ("tell", "left", "who")),)
        yield Face("bank", 2, **{**parts, "calls": (other_call,) + BANK_CALLS[1:]})

    def test_equal_where_all_five_are(self):
        self.assertIs(bank() == bank(), True)
        self.assertIs(bank() != bank(), False)
        self.assertIn(bank(), [Face("post", 1), bank()])
        self.assertEqual([Face("post", 1), bank()].index(bank()), 1)
        self.assertEqual(("x", [bank()]), ("x", [bank()]))

    def test_equal_although_made_of_other_tuples(self):
        fresh_calls = tuple([tuple(list(call)) for call in BANK_CALLS])
        self.assertIs(Face("bank", 2, calls=fresh_calls) == Face("bank", 2, calls=BANK_CALLS), True)

    def test_unequal_where_just_one_part_is_otherwise(self):
        for at, other in enumerate(self.others()):
            with self.subTest(at):
                self.assertIs(bank() == other, False)
                self.assertIs(other == bank(), False)
                self.assertIs(bank() != other, True)
                self.assertIs(other != bank(), True)
                self.assertNotIn(bank(), [other])

    def test_equal_to_nothing_else(self):
        class Lookalike:
            def __init__(self):
                self.name, self.edition = "bank", 2
                self.choices, self.records, self.calls = BANK_CHOICES, BANK_RECORDS, BANK_CALLS

        face = bank()
        parts = ("bank", 2, BANK_CHOICES, BANK_RECORDS, BANK_CALLS)
        named = {"name": "bank", "edition": 2, "choices": (), "records": (), "calls": ()}
        others = [thing for thing in any_things() if not isinstance(thing, Face)]
        others += ["bank", "Face(bank 2)", 2, parts, list(parts), named, Face, Lookalike(), samples.BANK_TEXT]
        for thing in others:
            with self.subTest(str(thing)[:40]):
                self.assertIs(face == thing, False)
                self.assertIs(thing == face, False)
                self.assertIs(face != thing, True)
                self.assertIs(thing != face, True)
                self.assertNotIn(face, [thing])
                self.assertNotIn(thing, [face])

    def test_decides_itself_against_what_equals_all(self):
        self.assertIs(bank() == unittest.mock.ANY, False)


class RefusalsTest(unittest.TestCase):
    def refused(self, kind, field, ask, thing):
        shown = repr(thing)
        with self.assertRaises(kind) as caught:
            ask(thing)
        self.assertIs(type(caught.exception), kind)
        self.assertIs(getattr(caught.exception, field), thing)
        self.assertEqual(repr(thing), shown)

    def test_records_and_choices(self):
        face = bank()
        strangers = ["", "nobody", "Reply", " reply", "repl", "1", 1, 0, 10**29, "bank", "draw", "gold", "who"]
        for thing in any_things() + strangers:
            with self.subTest(repr(thing)[:40]):
                self.refused(NoName, "name", face.fields_of, thing)
                self.refused(NoName, "name", face.options_of, thing)
        self.assertEqual(face, bank())

    def test_a_choice_is_no_record_and_the_other_way_about(self):
        face = bank()
        for name in ("coin", "mood"):
            self.refused(NoName, "name", face.fields_of, name)
        for name in ("reply", "request", "trunk"):
            self.refused(NoName, "name", face.options_of, name)

    def test_numbers_of_calls(self):
        face = bank()
        strangers = [0, 2, 4, 6, 29, 31, -1, 10**29, "1", "5", "30", "", "draw", 1.0]
        for thing in any_things() + strangers:
            with self.subTest(repr(thing)[:40]):
                self.refused(NoCall, "number", face.call_of, thing)
        self.assertEqual(face, bank())

    def test_names_of_calls(self):
        face = bank()
        strangers = ["", "nobody", "Draw", "dra", "draws", "1", 1, 5, 30, "coin", "reply", "bank", "take"]
        for thing in any_things() + strangers:
            with self.subTest(repr(thing)[:40]):
                self.refused(NoName, "name", face.call_named, thing)
        self.assertEqual(face, bank())

    def test_a_face_of_nothing_has_nothing(self):
        face = Face("bank", 1)
        self.refused(NoName, "name", face.fields_of, "reply")
        self.refused(NoName, "name", face.options_of, "coin")
        self.refused(NoCall, "number", face.call_of, 1)
        self.refused(NoName, "name", face.call_named, "draw")
        self.assertEqual(face.call_numbers(), [])


class ToldTest(unittest.TestCase):
    def test_each_record(self):
        face = bank()
        for name, fields in BANK_RECORDS:
            with self.subTest(name):
                self.assertEqual(face.fields_of(name), fields)
                self.assertEqual(face.fields_of(record=name), fields)
                self.assertIsInstance(face.fields_of(name), tuple)

    def test_each_choice(self):
        face = bank()
        for name, options in BANK_CHOICES:
            with self.subTest(name):
                self.assertEqual(face.options_of(name), options)
                self.assertEqual(face.options_of(choice=name), options)
                self.assertIsInstance(face.options_of(name), tuple)

    def test_each_call(self):
        face = bank()
        for call in BANK_CALLS:
            with self.subTest(call[1]):
                self.assertEqual(face.call_of(call[0]), call)
                self.assertEqual(face.call_of(number=call[0]), call)
                self.assertEqual(face.call_named(call[1]), call)
                self.assertEqual(face.call_named(name=call[1]), call)
                self.assertIsInstance(face.call_of(call[0]), tuple)
                self.assertIsInstance(face.call_named(call[1]), tuple)

    def test_numbers_rise_in_a_list_of_the_askers_own(self):
        face = bank()
        numbers = face.call_numbers()
        self.assertEqual(numbers, [1, 5, 30])
        self.assertIsInstance(numbers, list)
        numbers.append(7)
        numbers[0] = 9
        self.assertEqual(face.call_numbers(), [1, 5, 30])
        self.assertEqual(numbers, [9, 5, 30, 7])
        self.assertEqual(face, bank())
        self.assertEqual(face.call_of(1), samples.DRAW)

    def test_two_faces_share_nothing(self):
        one, other = bank(), Face("post", 1)
        one.call_numbers().clear()
        self.assertEqual(one.call_numbers(), [1, 5, 30])
        self.assertEqual(other.call_numbers(), [])

    def test_methods_stand_in_the_class_itself(self):
        for name in ("fields_of", "options_of", "call_of", "call_named", "call_numbers"):
            self.assertIn(name, vars(Face))


if __name__ == "__main__":
    unittest.main()
