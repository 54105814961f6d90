"""Texts of ratios, and the examples of the interface: points 13 to 15."""

import unittest

from extralink.errors import BadText
from extralink.ratios import Ratio, greatest


class Text(unittest.TestCase):
    def test_whole_ratios(self):
        self.assertEqual(str(Ratio(4)), "4")
        self.assertEqual(str(Ratio(8, 2)), "4")
        self.assertEqual(str(Ratio(-4)), "-4")
        self.assertEqual(str(Ratio(1)), "1")
        self.assertEqual(str(Ratio(-1)), "-1")
        self.assertEqual(str(Ratio(10)), "10")

    def test_broken_ratios(self):
        self.assertEqual(str(Ratio(3, 2)), "3/2")
        self.assertEqual(str(Ratio(6, 4)), "3/2")
        self.assertEqual(str(Ratio(1, 10)), "1/10")

    def test_negative_ratios(self):
        self.assertEqual(str(Ratio(-3, 2)), "-3/2")
        self.assertEqual(str(Ratio(3, -2)), "-3/2")
        self.assertEqual(str(Ratio(-3, -2)), "3/2")

    def test_zero(self):
        self.assertEqual(str(Ratio(0)), "0")
        self.assertEqual(str(Ratio(0, -7)), "0")
        self.assertEqual(str(-Ratio(0)), "0")

    def test_in_an_f_string(self):
        self.assertEqual(f"{Ratio(-3, 2)} {Ratio(4)}", "-3/2 4")

    def test_a_thousand_digits(self):
        top, bottom = 10 ** 999 + 7, 10 ** 999 + 8
        self.assertEqual(str(Ratio(top)), "1" + "0" * 998 + "7")
        self.assertEqual(str(Ratio(-top, bottom)), "-1" + "0" * 998 + "7/1" + "0" * 998 + "8")
        self.assertEqual(str(Ratio(10 ** 1000 - 1)), "9" * 1000)

    def test_every_number_of_digits(self):
        for many in list(range(1, 300)) + [499, 500, 511, 512, 513, 640, 999, 1000]:
            self.assertEqual(str(Ratio(10 ** (many - 1))), "1" + "0" * (many - 1))
            self.assertEqual(str(Ratio(1 - 10 ** many)), "-" + "9" * many)
            self.assertEqual(str(Ratio(1, 10 ** many + 1)), "1/1" + "0" * (many - 1) + "1")

    def test_mixed_digits(self):
        digits = "9070501030" * 90
        self.assertEqual(str(Ratio(int(digits))), digits)
        self.assertEqual(str(Ratio(-int(digits), 10 ** 900)), "-" + digits[:-1] + "/1" + "0" * 899)

    def test_returned_ratios_of_any_size(self):
        # More digits than Python's own str takes.
        part = Ratio(10 ** 3000)
        self.assertEqual(str(part * part), "1" + "0" * 6000)
        self.assertEqual(str(part * part - 1), "9" * 6000)
        self.assertEqual(str(-(part * part) - 5), "-1" + "0" * 5999 + "5")
        self.assertEqual(str(Ratio(3).over(part * part)), "3/1" + "0" * 6000)
        self.assertEqual(str(Ratio(-1).over(part * part + 2)), "-1/1" + "0" * 5999 + "2")
        self.assertEqual(str(greatest([0, 7 * part * part])), "7" + "0" * 6000)


class Read(unittest.TestCase):
    def assert_read(self, text, top, bottom=1):
        ratio = Ratio.read(text)
        self.assertIsInstance(ratio, Ratio)
        self.assertEqual((ratio.top, ratio.bottom), (top, bottom), repr(text))

    def assert_refused(self, text):
        with self.assertRaises(BadText, msg=repr(text)) as held:
            Ratio.read(text)
        self.assertEqual(held.exception.text, text)

    def test_numbers(self):
        for number in [0, 1, 5, 9, 10, 42, 100, 907, 123456, 1000000]:
            self.assert_read(str(number), number)
            self.assert_read("-" + str(number), -number)

    def test_with_a_stroke(self):
        self.assert_read("3/2", 3, 2)
        self.assert_read("-3/2", -3, 2)
        self.assert_read("1/10", 1, 10)
        self.assert_read("20/3", 20, 3)

    def test_terms_that_are_not_the_lowest(self):
        self.assert_read("2/4", 1, 2)
        self.assert_read("-6/4", -3, 2)
        self.assert_read("8/2", 4)
        self.assert_read("5/1", 5)
        self.assert_read("7/7", 1)

    def test_zero(self):
        for text in ["0", "-0", "0/1", "-0/1", "0/5", "-0/12"]:
            self.assert_read(text, 0, 1)

    def test_nine_digits(self):
        self.assert_read("123456789", 123456789)
        self.assert_read("-999999999", -999999999)
        self.assert_read("999999999/999999998", 999999999, 999999998)
        self.assert_read("-100000000/999999999", -100000000, 999999999)
        self.assert_read("1/987654321", 1, 987654321)

    def test_every_digit(self):
        for digit in range(10):
            self.assert_read("1" + str(digit), 10 + digit)
            self.assert_read("1/1" + str(digit), 1, 10 + digit)

    def test_argument_by_name(self):
        self.assertEqual(str(Ratio.read(text="-6/4")), "-3/2")

    def test_what_str_gives_is_read(self):
        for ratio in [Ratio(0), Ratio(4), Ratio(-4), Ratio(3, 2), Ratio(-3, 2)]:
            self.assertTrue(Ratio.read(str(ratio)) == ratio)

    def test_missing_parts(self):
        for text in ["", "-", "/", "-/", "/2", "-/2", "3/", "-3/", "0/"]:
            self.assert_refused(text)

    def test_two_strokes(self):
        for text in ["1/2/3", "1//2", "//", "1/2/", "/1/2", "-1/2/3", "1/1/1"]:
            self.assert_refused(text)

    def test_signs_elsewhere(self):
        for text in ["3/-2", "-3/-2", "3-", "3-/2", "--3", "3/2-", "-3-", "1-2", "--", "-/-", "3/--2"]:
            self.assert_refused(text)

    def test_plus(self):
        for text in ["+", "+3", "+3/2", "3/+2", "-+3", "+-3", "3+", "1+2", "+0"]:
            self.assert_refused(text)

    def test_leading_zero(self):
        for text in ["00", "01", "-01", "007", "-00", "01/2", "1/02", "-1/02", "0/01", "1/00", "00/1", "000000001"]:
            self.assert_refused(text)

    def test_ten_digits(self):
        for text in ["1234567890", "-1234567890", "1/1234567890", "1234567890/1", "1000000000", "1/1000000000",
                     "9" * 11, "0" * 10, "9" * 100, "1/" + "9" * 100, "9" * 10000, "1/" + "9" * 10000]:
            self.assert_refused(text)

    def test_blanks_and_newlines_anywhere(self):
        for text in ["-12/34", "-7", "5", "0", "1/2"]:
            for at in range(len(text) + 1):
                for sign in [" ", "\n"]:
                    self.assert_refused(text[:at] + sign + text[at:])
        for text in [" ", "\n", "  ", "\n\n"]:
            self.assert_refused(text)

    def test_zero_behind_the_stroke(self):
        for text in ["1/0", "-1/0", "0/0", "-0/0", "123456789/0"]:
            self.assert_refused(text)

    def test_other_signs(self):
        allowed = [chr(code) for code in range(32, 127) if code != 37]
        for sign in allowed:
            if sign not in "0123456789":
                self.assert_refused("1" + sign)
                self.assert_refused("1/2" + sign)
                self.assert_refused("1/" + sign)
                if sign != "/":
                    self.assert_refused("1" + sign + "2")
                if sign != "-":
                    self.assert_refused(sign)
                    self.assert_refused(sign + "1")

    def test_letters_and_points(self):
        for text in ["a", "1a", "a1", "1/b", "x/2", "1.5", "1,000", "1_000", "1e5", "0x10", "0b1", "half", "None"]:
            self.assert_refused(text)


class Examples(unittest.TestCase):
    def test_first(self):
        half = Ratio.read("2/4")
        texts = [str(half + 1), str(2 - half * 3), str(half.over(-3)), half.below(1), str(greatest([half, -1]))]
        self.assertEqual(texts, ["3/2", "1/2", "-1/6", True, "1/2"])

    def test_second(self):
        with self.assertRaises(BadText) as held:
            Ratio.read("1/02")
        self.assertEqual(held.exception.text, "1/02")


if __name__ == "__main__":
    unittest.main()
