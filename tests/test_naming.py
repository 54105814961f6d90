"""Names: points 3 and 12."""

import unittest

from extralink.naming import valid_name

LETTERS = "abcdefghijklmnopqrstuvwxyz"
DIGITS = "0123456789"
# What callers pass: the signs from the space to ~ without the percent sign, and newlines.
SIGNS = "".join(chr(code) for code in range(32, 127) if code != 37) + "\n"


class ValidName(unittest.TestCase):
    def assert_name(self, text):
        self.assertIs(valid_name(text), True, repr(text))

    def assert_no_name(self, text):
        self.assertIs(valid_name(text), False, repr(text))

    def test_ordinary_names(self):
        for text in ["a", "z", "ab", "a1", "z0", "p2q", "start", "end", "abcdef", "a12345", "z99999", "a9b8c7"]:
            self.assert_name(text)

    def test_every_sign_alone(self):
        for sign in SIGNS:
            if sign in LETTERS:
                self.assert_name(sign)
            else:
                self.assert_no_name(sign)

    def test_every_sign_at_every_other_place(self):
        for sign in SIGNS:
            for text in ["a" + sign, "a" + sign + "c", "abcde" + sign, "ab" + sign + "def"]:
                if sign in LETTERS + DIGITS:
                    self.assert_name(text)
                else:
                    self.assert_no_name(text)

    def test_every_sign_as_the_first_of_several(self):
        for sign in SIGNS:
            for text in [sign + "b", sign + "bcdef", sign + "1"]:
                if sign in LETTERS:
                    self.assert_name(text)
                else:
                    self.assert_no_name(text)

    def test_lengths(self):
        for length in range(1, 7):
            self.assert_name("a" * length)
            self.assert_name("z" + "0" * (length - 1))
        for length in [0, 7, 8, 9, 12, 60, 100, 1000, 100000]:
            self.assert_no_name("a" * length)

    def test_newline_at_every_place(self):
        for text in ["\n", "\na", "a\n", "a\nb", "abcde\n", "abcdef\n", "\nabcde", "a\n\n", "a\nb: s > t"]:
            self.assert_no_name(text)

    def test_blanks_around_and_within(self):
        for text in [" ", " a", "a ", "a b", "abcde ", "abcdef ", " abcde", "      "]:
            self.assert_no_name(text)

    def test_upper_case(self):
        for text in ["A", "Z", "aB", "Ab", "ABC", "abcdeF"]:
            self.assert_no_name(text)

    def test_digit_first(self):
        for text in ["0", "9", "1a", "0abc", "12", "123456"]:
            self.assert_no_name(text)

    def test_runs_of_letters_as_names(self):
        self.assert_name("abc")
        self.assert_name("xyz")
        self.assert_name("a01234")
        self.assert_no_name("0123")

    def test_argument_by_name(self):
        self.assertIs(valid_name(text="a"), True)
        self.assertIs(valid_name(text=""), False)


if __name__ == "__main__":
    unittest.main()
