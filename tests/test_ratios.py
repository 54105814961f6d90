"""Ratios and their arithmetic: points 2, 9, 13 and 15."""

import unittest
from fractions import Fraction

from extralink.errors import BadCount, OutOfRange
from extralink.ratios import Ratio, as_ratio, greatest, least

BIG = 10 ** 40 + 7
HUGE = 10 ** 5000 + 1

SAMPLES = [
    (0, 1), (1, 1), (-1, 1), (2, 1), (-5, 1), (1, 2), (-1, 2), (3, 2), (-7, 3), (5, 6), (-5, 6),
    (10 ** 15, 10 ** 9 - 1), (BIG, 3), (-BIG, 10 ** 33 + 1), (1, BIG), (BIG - 1, BIG),
]
WHOLE = [0, 1, -1, 2, -3, 12, 10 ** 15, BIG, -BIG]


def pair(ratio):
    return (ratio.top, ratio.bottom)


class RatioCase(unittest.TestCase):
    def assert_ratio(self, ratio, top, bottom=1):
        self.assertIsInstance(ratio, Ratio)
        self.assertTrue(pair(ratio) == (top, bottom))

    def assert_same(self, ratio, fraction):
        self.assert_ratio(ratio, fraction.numerator, fraction.denominator)


class Construction(RatioCase):
    def test_lowest_terms(self):
        self.assert_ratio(Ratio(6, 4), 3, 2)
        self.assert_ratio(Ratio(4, 6), 2, 3)
        self.assert_ratio(Ratio(3, 2), 3, 2)
        self.assert_ratio(Ratio(12, 4), 3)
        self.assert_ratio(Ratio(7, 7), 1)
        self.assert_ratio(Ratio(5, 1), 5)

    def test_sign_is_in_the_top(self):
        self.assert_ratio(Ratio(-6, 4), -3, 2)
        self.assert_ratio(Ratio(6, -4), -3, 2)
        self.assert_ratio(Ratio(-6, -4), 3, 2)
        self.assert_ratio(Ratio(5, -1), -5)
        self.assert_ratio(Ratio(-5, -5), 1)
        self.assert_ratio(Ratio(8, -2), -4)

    def test_zero_has_the_bottom_one(self):
        for bottom in [1, -1, 2, -2, 17, -60, BIG, -BIG]:
            self.assert_ratio(Ratio(0, bottom), 0, 1)

    def test_bottom_left_out(self):
        self.assert_ratio(Ratio(7), 7)
        self.assert_ratio(Ratio(-7), -7)
        self.assert_ratio(Ratio(0), 0)
        self.assert_ratio(Ratio(BIG), BIG)

    def test_arguments_by_name(self):
        self.assert_ratio(Ratio(top=6, bottom=4), 3, 2)
        self.assert_ratio(Ratio(bottom=4, top=-6), -3, 2)
        self.assert_ratio(Ratio(6, bottom=4), 3, 2)
        self.assert_ratio(Ratio(top=6), 6)

    def test_bottom_of_zero_is_refused(self):
        for top in [0, 1, -1, BIG, -BIG]:
            with self.assertRaises(OutOfRange) as held:
                Ratio(top, 0)
            self.assertEqual(held.exception.value, 0)
        with self.assertRaises(OutOfRange) as held:
            Ratio(bottom=0, top=3)
        self.assertEqual(held.exception.value, 0)

    def test_any_size(self):
        self.assert_ratio(Ratio(BIG * 6, BIG * 4), 3, 2)
        self.assert_ratio(Ratio(BIG * 6, -BIG * 4), -3, 2)
        self.assert_ratio(Ratio(HUGE * 3, HUGE * 2), 3, 2)
        self.assert_ratio(Ratio(3, -HUGE * 3), -1, HUGE)

    def test_all_small_fractions(self):
        for top in range(-12, 13):
            for bottom in list(range(-12, 0)) + list(range(1, 13)):
                self.assert_same(Ratio(top, bottom), Fraction(top, bottom))

    def test_sign(self):
        for top, bottom in SAMPLES:
            expected = 0 if top == 0 else 1 if top > 0 else -1
            self.assertEqual(Ratio(top, bottom).sign, expected)
            self.assertEqual(Ratio(top, -bottom).sign, -expected)
        self.assertEqual([Ratio(5, 3).sign, Ratio(-5, 3).sign, Ratio(0, 3).sign], [1, -1, 0])
        self.assertEqual([Ratio(1, BIG).sign, Ratio(-1, BIG).sign], [1, -1])

    def test_properties_are_plain_integers(self):
        for ratio in [Ratio(0), Ratio(3, 2), Ratio(-3, 2), Ratio(1), -Ratio(1)]:
            for value in [ratio.top, ratio.bottom, ratio.sign]:
                self.assertEqual(value.__class__, int)


class Arithmetic(RatioCase):
    def check_two(self, first, second, one, two):
        self.assert_same(first + second, one + two)
        self.assert_same(first - second, one - two)
        self.assert_same(first * second, one * two)

    def test_negative(self):
        for top, bottom in SAMPLES:
            self.assert_same(-Ratio(top, bottom), -Fraction(top, bottom))
        self.assert_ratio(-Ratio(0), 0)
        self.assert_ratio(-Ratio(-3, 2), 3, 2)

    def test_by_hand(self):
        half, third = Ratio(1, 2), Ratio(1, 3)
        self.assert_ratio(half + third, 5, 6)
        self.assert_ratio(half - third, 1, 6)
        self.assert_ratio(third - half, -1, 6)
        self.assert_ratio(half * third, 1, 6)
        self.assert_ratio(half + half, 1)
        self.assert_ratio(half - half, 0)
        self.assert_ratio(half * 2, 1)
        self.assert_ratio(half + 1, 3, 2)
        self.assert_ratio(1 + half, 3, 2)
        self.assert_ratio(half - 1, -1, 2)
        self.assert_ratio(1 - half, 1, 2)
        self.assert_ratio(3 - half, 5, 2)
        self.assert_ratio(3 * half, 3, 2)
        self.assert_ratio(0 * half, 0)
        self.assert_ratio(half * 0, 0)

    def test_two_ratios(self):
        for first in SAMPLES:
            for second in SAMPLES:
                self.check_two(Ratio(*first), Ratio(*second), Fraction(*first), Fraction(*second))

    def test_ratio_and_integer(self):
        for first in SAMPLES:
            for whole in WHOLE:
                self.check_two(Ratio(*first), whole, Fraction(*first), whole)

    def test_integer_and_ratio(self):
        for first in SAMPLES:
            for whole in WHOLE:
                self.check_two(whole, Ratio(*first), whole, Fraction(*first))

    def test_assignments_with_operators(self):
        for other in [Ratio(2, 3), 5, -5, BIG]:
            plain = Fraction(other.top, other.bottom) if isinstance(other, Ratio) else other
            kept = value = Ratio(-7, 6)
            value += other
            self.assert_same(value, Fraction(-7, 6) + plain)
            value -= 3
            self.assert_same(value, Fraction(-7, 6) + plain - 3)
            value *= other
            self.assert_same(value, (Fraction(-7, 6) + plain - 3) * plain)
            self.assert_ratio(kept, -7, 6)

    def test_assignments_to_an_integer(self):
        value = 4
        value += Ratio(1, 2)
        self.assert_ratio(value, 9, 2)
        value = 4
        value -= Ratio(1, 2)
        self.assert_ratio(value, 7, 2)
        value = 4
        value *= Ratio(1, 2)
        self.assert_ratio(value, 2)

    def test_a_sum_of_a_list(self):
        self.assert_ratio(sum([Ratio(1, 2), Ratio(1, 3), 1]), 11, 6)

    def test_any_size(self):
        huge = Ratio(HUGE, 3)
        self.assert_ratio(huge + 1, HUGE + 3, 3)
        self.assert_ratio(HUGE * huge, HUGE * HUGE, 3)
        self.assert_ratio(HUGE - huge, HUGE * 2, 3)
        self.assert_ratio(huge - huge, 0)
        self.assert_ratio(huge.over(HUGE), 1, 3)


class Equality(RatioCase):
    def test_equal_ratios(self):
        for top, bottom in SAMPLES:
            for factor in [1, 2, -3, BIG]:
                self.assertIs(Ratio(top, bottom) == Ratio(top * factor, bottom * factor), True)
                self.assertIs(Ratio(top, bottom) != Ratio(top * factor, bottom * factor), False)

    def test_itself(self):
        ratio = Ratio(3, 2)
        self.assertIs(ratio == ratio, True)
        self.assertIs(ratio != ratio, False)

    def test_other_ratios(self):
        for first in SAMPLES:
            for second in SAMPLES:
                self.assertIs(Ratio(*first) == Ratio(*second), first == second)
                self.assertIs(Ratio(*first) != Ratio(*second), first != second)
        self.assertIs(Ratio(3, 2) == Ratio(3, 4), False)
        self.assertIs(Ratio(3, 2) == Ratio(1, 2), False)
        self.assertIs(Ratio(3, 2) == Ratio(2, 3), False)
        self.assertIs(Ratio(3, 2) == Ratio(-3, 2), False)

    def test_values_of_another_kind(self):
        others = [1, 0, -1, 2, "1", "3/2", "", None, (1, 1), [1, 1], [1], {}, {"top": 1}, b"1", Fraction(1), object()]
        for ratio in [Ratio(1), Ratio(0), Ratio(3, 2), Ratio(-1)]:
            for other in others:
                self.assertIs(ratio == other, False)
                self.assertIs(other == ratio, False)
                self.assertIs(ratio != other, True)
                self.assertIs(other != ratio, True)


class Over(RatioCase):
    def test_by_hand(self):
        self.assert_ratio(Ratio(1, 2).over(3), 1, 6)
        self.assert_ratio(Ratio(1, 2).over(-3), -1, 6)
        self.assert_ratio(Ratio(-1, 2).over(-3), 1, 6)
        self.assert_ratio(Ratio(1, 2).over(Ratio(1, 4)), 2)
        self.assert_ratio(Ratio(1, 2).over(Ratio(-3, 4)), -2, 3)
        self.assert_ratio(Ratio(6).over(4), 3, 2)
        self.assert_ratio(Ratio(0).over(-4), 0)

    def test_against_fractions(self):
        for first in SAMPLES:
            for second in SAMPLES:
                if second[0] != 0:
                    self.assert_same(Ratio(*first).over(Ratio(*second)), Fraction(*first) / Fraction(*second))
            for whole in WHOLE:
                if whole != 0:
                    self.assert_same(Ratio(*first).over(whole), Fraction(*first) / whole)

    def test_argument_by_name(self):
        self.assert_ratio(Ratio(1, 2).over(value=2), 1, 4)

    def test_zero_is_refused(self):
        for ratio in [Ratio(0), Ratio(1), Ratio(-3, 2), Ratio(BIG)]:
            with self.assertRaises(OutOfRange) as held:
                ratio.over(0)
            self.assertEqual(held.exception.value, 0)
            self.assertIsInstance(held.exception.value, int)

    def test_a_ratio_of_zero_is_refused(self):
        for zero in [Ratio(0), Ratio(0, -5), Ratio(1, 2) - Ratio(1, 2)]:
            for ratio in [Ratio(0), Ratio(1), Ratio(-3, 2), Ratio(BIG)]:
                with self.assertRaises(OutOfRange) as held:
                    ratio.over(zero)
                self.assertIs(held.exception.value, zero)


class Below(RatioCase):
    def assert_below(self, first, second):
        self.assertIs(first.below(second), True)
        self.assertIs(as_ratio(second).below(first), False)

    def test_by_hand(self):
        self.assert_below(Ratio(1, 3), Ratio(1, 2))
        self.assert_below(Ratio(-1, 2), Ratio(-1, 3))
        self.assert_below(Ratio(-1, 2), Ratio(1, 3))
        self.assert_below(Ratio(-1, 2), 0)
        self.assert_below(Ratio(0), Ratio(1, 2))
        self.assert_below(Ratio(3, 2), 2)
        self.assert_below(Ratio(-2), Ratio(-3, 2))
        self.assertIs(Ratio(3, 2).below(1), False)
        self.assertIs(Ratio(3, 2).below(-2), False)

    def test_equal_values(self):
        for top, bottom in SAMPLES:
            self.assertIs(Ratio(top, bottom).below(Ratio(top * 2, bottom * 2)), False)
        for whole in WHOLE:
            self.assertIs(Ratio(whole).below(whole), False)

    def test_against_fractions(self):
        for first in SAMPLES:
            for second in SAMPLES:
                self.assertIs(Ratio(*first).below(Ratio(*second)), Fraction(*first) < Fraction(*second))
            for whole in WHOLE:
                self.assertIs(Ratio(*first).below(whole), Fraction(*first) < whole)

    def test_very_near_values(self):
        self.assert_below(Ratio(BIG, BIG + 1), Ratio(BIG + 1, BIG + 2))
        self.assert_below(Ratio(-BIG - 1, BIG + 2), Ratio(-BIG, BIG + 1))
        self.assert_below(Ratio(BIG, BIG + 1), 1)
        self.assert_below(Ratio(1), Ratio(BIG + 1, BIG))
        self.assert_below(Ratio(0), Ratio(1, HUGE))
        self.assert_below(Ratio(-1, HUGE), 0)
        self.assert_below(Ratio(BIG) - Ratio(1, BIG), BIG)
        self.assert_below(Ratio(BIG), BIG + 1)

    def test_argument_by_name(self):
        self.assertIs(Ratio(1, 2).below(value=1), True)
        self.assertIs(Ratio(1, 2).below(value=Ratio(1, 2)), False)


class NeverChanges(RatioCase):
    def test_used_ratios_stay(self):
        for first in SAMPLES:
            for second in SAMPLES:
                self.use(Ratio(*first), Ratio(*second), first, second)

    def use(self, one, two, first, second):
        results = [-one, one + two, one - two, one * two, one + 1, 1 - one, 2 * one, one.below(two), one == two]
        if two.sign != 0:
            results.append(one.over(two))
        results.append([str(one), as_ratio(one), least([one, two, 1]), greatest((one, two, 1))])
        self.assertEqual(len(results[-1]), 4)
        self.assertEqual(pair(one), first)
        self.assertEqual(pair(two), second)

    def test_refused_calls_change_nothing(self):
        ratio, zero = Ratio(-3, 2), Ratio(0)
        with self.assertRaises(OutOfRange):
            ratio.over(zero)
        self.assert_ratio(ratio, -3, 2)
        self.assert_ratio(zero, 0)

    def test_properties_cannot_be_set(self):
        ratio = Ratio(3, 2)
        for name in ["top", "bottom", "sign"]:
            with self.assertRaises(AttributeError):
                setattr(ratio, name, 7)
        self.assert_ratio(ratio, 3, 2)
        self.assertEqual(ratio.sign, 1)


class AsRatio(RatioCase):
    def test_integers(self):
        for whole in WHOLE + [HUGE, -HUGE]:
            self.assert_ratio(as_ratio(whole), whole)

    def test_ratios(self):
        for top, bottom in SAMPLES:
            self.assert_ratio(as_ratio(Ratio(top, bottom)), top, bottom)
            self.assertIs(as_ratio(Ratio(top, bottom)) == Ratio(top, bottom), True)

    def test_argument_by_name(self):
        self.assert_ratio(as_ratio(value=4), 4)
        self.assert_ratio(as_ratio(value=Ratio(1, 2)), 1, 2)


class LeastAndGreatest(RatioCase):
    def assert_ends(self, values, low, high):
        for items in [list(values), tuple(values), list(values)[::-1], tuple(values)[::-1]]:
            self.assert_same(least(items), Fraction(low))
            self.assert_same(greatest(items), Fraction(high))

    def test_ratios(self):
        self.assert_ends([Ratio(1, 2), Ratio(1, 3), Ratio(2, 5)], Fraction(1, 3), Fraction(1, 2))
        self.assert_ends([Ratio(-1, 2), Ratio(-1, 3), Ratio(-2, 5)], Fraction(-1, 2), Fraction(-1, 3))

    def test_integers(self):
        self.assert_ends([3, 1, 2], 1, 3)
        self.assert_ends([-3, -1, -2], -3, -1)
        self.assert_ends([10, 9, 100], 9, 100)

    def test_ratios_and_integers(self):
        self.assert_ends([Ratio(1, 2), -1], -1, Fraction(1, 2))
        self.assert_ends([0, Ratio(-1, 2), Ratio(1, 2), 2, Ratio(5, 2)], Fraction(-1, 2), Fraction(5, 2))

    def test_one_item(self):
        for value in [Ratio(3, 2), Ratio(-3, 2), Ratio(0)]:
            self.assert_ends([value], Fraction(value.top, value.bottom), Fraction(value.top, value.bottom))
        for value in [0, 5, -5, BIG]:
            self.assert_ends([value], value, value)

    def test_equal_items(self):
        self.assert_ends([2, Ratio(2), 2, Ratio(4, 2)], 2, 2)
        self.assert_ends([1, 2, Ratio(2), Ratio(1), 1], 1, 2)
        self.assert_ends([Ratio(1, 2), Ratio(1, 2)], Fraction(1, 2), Fraction(1, 2))

    def test_every_place_of_the_ends(self):
        for at in range(5):
            for other in range(5):
                if at != other:
                    values = [0] * 5
                    values[at], values[other] = -1, Ratio(1, 7)
                    self.assert_ends(values, -1, Fraction(1, 7))

    def test_very_near_values(self):
        self.assert_ends([Ratio(BIG, BIG + 1), 1, Ratio(BIG + 1, BIG)], Fraction(BIG, BIG + 1), Fraction(BIG + 1, BIG))

    def test_none_is_refused(self):
        for function in [least, greatest]:
            for empty in [[], ()]:
                with self.assertRaises(BadCount) as held:
                    function(empty)
                self.assertEqual(held.exception.count, 0)

    def test_the_list_stays(self):
        items = [Ratio(1, 2), 3, Ratio(-1), 3, Ratio(-1)]
        for function in [least, greatest]:
            values = list(items)
            function(values)
            self.assertEqual(len(values), len(items))
            for value, item in zip(values, items):
                self.assertIs(value, item)

    def test_argument_by_name(self):
        self.assert_ratio(least(values=[2, 1]), 1)
        self.assert_ratio(greatest(values=[2, 1]), 2)


if __name__ == "__main__":
    unittest.main()
