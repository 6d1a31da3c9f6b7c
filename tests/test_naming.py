"""Points 3 and 13: names."""

import inspect
import re
import string
import unittest

from anyfactors import naming
from anyfactors.naming import valid_name
from checks import ANY_VALUES, PromiseCase

# What callers may pass: the ASCII characters from the space to ~ without the percent sign, and newlines.
SIGNS = [chr(code) for code in range(32, 127) if code != 37] + ["\n"]


class Point13(PromiseCase):
    def test_example(self):
        self.assertEqual(
            [valid_name("x"), valid_name("flow1"), valid_name("1x"), valid_name("Flow"), valid_name("voltage")],
            [True, True, False, False, False],
        )

    def test_results_are_truths(self):
        for text in ["x", "a1b2c3", "", "X", "1", "toolong"]:
            self.assertIs(type(valid_name(text)), bool)

    def test_lengths(self):
        for length in range(12):
            self.assertIs(valid_name("a" * length), 1 <= length <= 6, length)
            self.assertIs(valid_name("z9" * length), 1 <= length <= 3, length)

    def test_each_sign_alone(self):
        for sign in SIGNS:
            self.assertIs(valid_name(sign), sign in string.ascii_lowercase, sign)

    def test_each_sign_at_each_place(self):
        for sign in SIGNS:
            later = sign in string.ascii_lowercase + string.digits
            for at in range(1, 6):
                for length in range(at + 1, 7):
                    text = "b" * at + sign + "k" * (length - at - 1)
                    self.assertIs(valid_name(text), later, text)
            for length in range(2, 7):
                self.assertIs(valid_name(sign + "b" * (length - 1)), sign in string.ascii_lowercase, sign)

    def test_newlines_capitals_and_digits(self):
        for text in ["x\n", "\nx", "x\ny", "\n", "xY", "Xy", "X", "1", "12", "9a", "x ", " x", "x-y", "x_y", "_x"]:
            self.assertIs(valid_name(text), False, text)
        for text in ["x1", "x12345", "z", "a0", "abcdef", "z99999"]:
            self.assertIs(valid_name(text), True, text)
        for text in ["x123456", "abcdefg", "abcdef\n", "abcdef "]:
            self.assertIs(valid_name(text), False, text)

    def test_against_a_pattern(self):
        signs = ["a", "z", "m", "0", "9", "A", " ", "\n"]
        for first in signs:
            for second in ["", *signs]:
                for third in ["", *signs]:
                    text = first + second + third
                    self.assertIs(valid_name(text), re.fullmatch("[a-z][a-z0-9]{0,5}", text) is not None, text)

    def test_only_strings_are_names(self):
        for value in ANY_VALUES:
            self.assertIs(self.given(valid_name, value), type(value) is str and value in ("x", "y", "r0"))

    def test_by_name(self):
        self.assertIs(valid_name(text="x"), True)
        self.assertEqual(list(inspect.signature(valid_name).parameters), ["text"])
        self.assertEqual(naming.valid_name.__module__, "anyfactors.naming")


if __name__ == "__main__":
    unittest.main()
