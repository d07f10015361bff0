"""Points 2 and 18: letters and keys."""

import itertools
import unittest

from facehouse.letters import Letter, key_below, key_of
from tests.samples import any_things

PARTS = {
    "number": 3, "way": "ask", "sender": "ada", "goal": "bob", "key": "ada1", "face": "bank", "edition": 2, "call": 4,
    "body": (1, 2, 3),
}
OTHERS = {
    "number": (4, 0, -3, "3"), "way": ("answer", "fault"), "sender": ("bob", "ad"), "goal": ("ada", "bo"),
    "key": ("ada2", "ada1.bank1", ""), "face": ("post", "ban"), "edition": (1, 3), "call": (5, 3),
    "body": ((), (1, 2), (1, 2, 4), (1, 2, 3, 0), [1, 2, 3]),
}


class LetterTest(unittest.TestCase):
    def test_fields(self):
        letter = Letter(**PARTS)
        for name, part in PARTS.items():
            self.assertEqual(getattr(letter, name), part)
        self.assertIs(letter.body, PARTS["body"])

    def test_names_in_any_order_and_the_number_by_its_place(self):
        names = [name for name in PARTS if name != "number"]
        for order in (names, names[::-1], sorted(names), names[3:] + names[:3]):
            letter = Letter(3, **{name: PARTS[name] for name in order})
            self.assertEqual(letter, Letter(**PARTS))
            self.assertEqual([getattr(letter, name) for name in PARTS], list(PARTS.values()))

    def test_all_but_the_number_are_named(self):
        with self.assertRaises(TypeError):
            Letter(3, "ask", sender="ada", goal="bob", key="ada1", face="bank", edition=2, call=4, body=())
        for name in PARTS:
            with self.assertRaises(TypeError):
                Letter(**{other: part for other, part in PARTS.items() if other != name})

    def test_equal_just_where_all_nine_are(self):
        letter = Letter(**PARTS)
        self.assertTrue(letter == Letter(**PARTS))
        self.assertFalse(letter != Letter(**PARTS))
        for name, others in OTHERS.items():
            for other in others:
                changed = Letter(**{**PARTS, name: other})
                with self.subTest(name=name, other=other):
                    self.assertFalse(letter == changed)
                    self.assertFalse(changed == letter)
                    self.assertTrue(letter != changed)

    def test_unlike_in_two(self):
        letter = Letter(**PARTS)
        for one, other in itertools.combinations(OTHERS, 2):
            self.assertFalse(letter == Letter(**{**PARTS, one: OTHERS[one][0], other: OTHERS[other][0]}))

    def test_equal_to_nothing_else(self):
        letter = Letter(**PARTS)
        for thing in any_things() + [3, "Letter(3)", tuple(PARTS.values()), list(PARTS.values()), PARTS]:
            self.assertFalse(letter == thing)
            self.assertFalse(thing == letter)
            self.assertTrue(letter != thing)

    def test_repr(self):
        for number in (1, 3, 10, 12345):
            self.assertEqual(repr(Letter(**{**PARTS, "number": number})), f"Letter({number})")

    def test_keys(self):
        self.assertEqual(key_of("ada", 1), "ada1")
        self.assertEqual(key_of("b", 120), "b120")
        self.assertEqual(key_of(n=7, end="eve"), "eve7")
        self.assertEqual(key_below("ada1", "bank", 2), "ada1.bank2")
        self.assertEqual(key_below(key_below("ada1", "bank", 2), "post", 30), "ada1.bank2.post30")
        self.assertEqual(key_below(number=3, face="x", key="y9"), "y9.x3")


if __name__ == "__main__":
    unittest.main()
