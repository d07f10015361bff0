"""Point 2: what a whole number and a name are, and how a number is written."""

import unittest

from facehouse.basics import are_unlike, is_name, is_number_text, is_rising, is_whole
from tests.samples import any_things


class WholeTest(unittest.TestCase):
    def test_ints_are_whole(self):
        for number in (0, 1, -1, 10**9, 10**30 - 1):
            with self.subTest(number):
                self.assertIs(is_whole(number), True)

    def test_nothing_else_is_whole(self):
        for thing in any_things() + ["1", "", 1.0]:
            with self.subTest(str(thing)[:40]):
                self.assertIs(is_whole(thing), False)


class NameTest(unittest.TestCase):
    def test_names(self):
        for name in ("a", "z", "az", "bank", "abcdefgh", "zzzzzzzz", "face", "must"):
            with self.subTest(name):
                self.assertIs(is_name(name), True)

    def test_no_names(self):
        texts = ["", "abcdefghi", "A", "aB", "a1", "1", "a_b", "a-b", " a", "a ", "a b", "a\n", "`", "{"]
        for thing in texts + ["\u00e9", "\u0430", 1] + any_things():
            with self.subTest(str(thing)[:40]):
                self.assertIs(is_name(thing), False)


class NumberTextTest(unittest.TestCase):
    def test_written_as_told(self):
        for word in ("0", "1", "9", "10", "30", "99", "100", "9" * 30):
            with self.subTest(word):
                self.assertIs(is_number_text(word), True)

    def test_not_written_as_told(self):
        words = ["", "00", "01", "-1", "+1", "1.0", "1_0", " 1", "1 ", "1\n", "a", "1a", "\u00b2", "\u0661", "/", ":"]
        for word in words + ["9" * 31, "9" * 5000]:
            with self.subTest(word[:40]):
                self.assertIs(is_number_text(word), False)


class RowsTest(unittest.TestCase):
    def test_rising(self):
        for things in ([], [3], [1, 2], [1, 2, 30], ["a", "aa", "b"]):
            with self.subTest(things):
                self.assertIs(is_rising(things), True)

    def test_not_rising(self):
        for things in ([1, 1], [2, 1], [1, 3, 2], [1, 2, 2], ["b", "a"], ["aa", "a"]):
            with self.subTest(things):
                self.assertIs(is_rising(things), False)

    def test_unlike(self):
        self.assertIs(are_unlike([]), True)
        self.assertIs(are_unlike(["b", "a", "aa"]), True)
        self.assertIs(are_unlike(["b", "a", "b"]), False)


if __name__ == "__main__":
    unittest.main()
