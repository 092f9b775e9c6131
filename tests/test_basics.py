"""is_integer, is_count, is_text, are_letters: a bool for any value."""

import string
import unittest

from ringdepth.basics import are_letters, is_count, is_integer, is_text
from ringdepth.words import Word
from tests.plain import odd_values

ALL = [is_integer, is_count, is_text, are_letters]


class BasicsTest(unittest.TestCase):

    def test_a_bool_for_any_value(self):
        for value in odd_values() + [Word("", "a")]:
            for asked in ALL:
                self.assertIs(asked(value), asked(value=value) is True)

    def test_values_of_other_kinds(self):
        others = [value for value in odd_values() if not isinstance(value, (int, str))]
        self.assertGreater(len(others), 30)
        for value in others + [Word("", "a"), True, False]:
            for asked in ALL:
                self.assertIs(asked(value), False)

    def test_integers(self):
        for value in [0, 1, -1, 7, -7, 10 ** 29, -(10 ** 29)]:
            self.assertIs(is_integer(value), True)
        for value in [True, False, "0", "1", "", None, [1], (1,), b"1"]:
            self.assertIs(is_integer(value), False)

    def test_counts(self):
        for value in [0, 1, 2, 10 ** 29]:
            self.assertIs(is_count(value), True)
        for value in [-1, -2, -(10 ** 29), True, False, "0", None, [0]]:
            self.assertIs(is_count(value), False)

    def test_texts(self):
        for value in ["", "a", "z", "az", "zaza", string.ascii_lowercase, "a" * 9000, "cba"]:
            self.assertIs(is_text(value), True)

    def test_each_sign_that_is_no_letter(self):
        signs = "\n" + "".join(chr(code) for code in range(32, 127))
        for sign in signs:
            expected = sign in string.ascii_lowercase
            for value in [sign, "a" + sign, sign + "z", "a" + sign + "z"]:
                self.assertIs(is_text(value), expected, repr(value))

    def test_letters_of_other_alphabets(self):
        for sign in "\u00e4\u00df\u03b1\u0430\u00aa":
            for value in [sign, "a" + sign]:
                self.assertIs(is_text(value), False)
                self.assertIs(are_letters(value), False)

    def test_other_values_are_no_texts(self):
        for value in [None, 1, True, b"a", b"", ["a"], ("a", "b"), [], {"a": 1}]:
            self.assertIs(is_text(value), False)

    def test_letters_by_all_short_strings(self):
        signs = "abzA1 \n"
        values = [""]
        for _ in range(4):
            values = values + [value + sign for value in values for sign in signs if len(value) < 4]
        for value in sorted(set(values)):
            rising = all(first < second for first, second in zip(value, value[1:]))
            expected = 1 <= len(value) <= 3 and rising and all(sign in string.ascii_lowercase for sign in value)
            self.assertIs(are_letters(value), expected, repr(value))

    def test_letters_at_their_edges(self):
        for value in ["a", "z", "az", "abc", "xyz", "acz"]:
            self.assertIs(are_letters(value), True)
        for value in ["", "abcd", "aa", "aab", "abb", "ba", "acb", "bac", "aba", "AB", "a b", "ab\n", " ab", "a1"]:
            self.assertIs(are_letters(value), False)
        for value in [["a", "b"], ("a",), b"ab", {"a": 1}, None, True, 1]:
            self.assertIs(are_letters(value), False)


if __name__ == "__main__":
    unittest.main()
