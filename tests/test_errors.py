"""The interface: the fourteen classes of refusals."""

import unittest

from facehouse import errors

CLASSES = {
    "NoFace": (ValueError, None),
    "NoBody": (ValueError, None),
    "NoValue": (TypeError, None),
    "NoName": (KeyError, "name"),
    "NoCall": (LookupError, "number"),
    "NoHouse": (ValueError, "why"),
    "Down": (RuntimeError, "end"),
    "Up": (RuntimeError, "end"),
    "NoLetter": (IndexError, "number"),
    "NoWork": (LookupError, "end"),
    "NoKey": (KeyError, "key"),
    "NoRoll": (ArithmeticError, "why"),
    "NoDeed": (TypeError, "at"),
    "NoText": (ValueError, None),
}


def class_named(name):
    return getattr(errors, name)


class ErrorsTest(unittest.TestCase):
    def test_all_fourteen_are_there_and_no_more(self):
        found = {name for name, thing in vars(errors).items() if isinstance(thing, type)}
        self.assertEqual(found, set(CLASSES))

    def test_each_is_straight_under_its_class(self):
        for name, (base, _) in CLASSES.items():
            with self.subTest(name):
                self.assertEqual(class_named(name).__bases__, (base,))

    def test_none_is_under_another_one(self):
        for one in CLASSES:
            for other in CLASSES:
                if one != other:
                    with self.subTest(one=one, other=other):
                        self.assertFalse(issubclass(class_named(one), class_named(other)))

    def test_fields_are_what_was_handed_in(self):
        for name, (_, field) in CLASSES.items():
            if field is None:
                continue
            for thing in ("bank", 3, None, ["a", {"b": ()}], ("talk", "ada")):
                with self.subTest(name=name, thing=thing):
                    made = class_named(name)(thing)
                    self.assertIs(getattr(made, field), thing)
                    self.assertIs(getattr(class_named(name)(**{field: thing}), field), thing)

    def test_each_can_be_raised_and_shown(self):
        for name, (base, _) in CLASSES.items():
            with self.subTest(name):
                with self.assertRaises(base) as caught:
                    raise class_named(name)("bank")
                self.assertIs(type(caught.exception), class_named(name))
                self.assertIn("bank", str(caught.exception))


if __name__ == "__main__":
    unittest.main()
