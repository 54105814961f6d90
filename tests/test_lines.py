"""Lines, their corners and their times: points 2, 9, 10, 24 to 26."""

import unittest

from extralink.buildings import Building
from extralink.errors import BadCount, OutOfRange
from extralink.lines import Line
from extralink.networks import Network
from extralink.ratios import Ratio
from tests.helper import ErrorCase, fraction, ratio

HALF = Ratio(1, 2)
THIRD = Ratio(1, 3)


def texts(line):
    """The corners and the slope of a line as texts."""
    return [(str(load), str(time)) for load, time in line.corners], str(line.slope)


class Refused(ErrorCase):
    def test_no_corner(self):
        for none in [[], ()]:
            self.refused(BadCount(0), Line, none, 0)
            self.refused(BadCount(0), Line, none, -1)

    def test_first_load(self):
        for load in [1, -1, 10 ** 15, HALF, -HALF, Ratio(1), Ratio(1, 10 ** 9)]:
            self.refused(OutOfRange(load), Line, [(load, 1)], 0)
            self.refused(OutOfRange(load), Line, ((load, 1), (5, 2)), 0)

    def test_first_time(self):
        for time in [-1, -10 ** 15, -HALF, Ratio(-1), Ratio(-1, 10 ** 9)]:
            self.refused(OutOfRange(time), Line, [(0, time)], 0)
            self.refused(OutOfRange(time), Line, [(0, time), (1, 2)], 0)

    def test_another_load(self):
        for load in [2, 1, 0, -1, Ratio(2), Ratio(3, 2), -HALF, Ratio(2 * 10 ** 9 - 1, 10 ** 9)]:
            self.refused(OutOfRange(load), Line, [(0, 1), (2, 1), (load, 1)], 0)
            self.refused(OutOfRange(load), Line, [(0, 1), (Ratio(2), 1), (load, 1), (7, 7)], 0)
        self.refused(OutOfRange(0), Line, [(0, 1), (0, 1)], 0)
        self.refused(OutOfRange(0), Line, [(Ratio(0), 1), (0, 1)], 0)

    def test_another_time(self):
        for time in [1, 0, -1, Ratio(1), Ratio(3, 2), -HALF, Ratio(2 * 10 ** 9 - 1, 10 ** 9)]:
            self.refused(OutOfRange(time), Line, [(0, 2), (3, time)], 0)
            self.refused(OutOfRange(time), Line, [(0, 0), (2, 2), (3, time), (4, 9)], 0)
            self.refused(OutOfRange(time), Line, [(0, 0), (2, Ratio(2)), (3, time)], 0)

    def test_slope(self):
        for slope in [-1, -10 ** 15, -HALF, Ratio(-1), Ratio(-1, 10 ** 9)]:
            self.refused(OutOfRange(slope), Line, [(0, 1)], slope)
            self.refused(OutOfRange(slope), Line, [(0, 1), (1, 5)], slope)
            self.refused(OutOfRange(slope), Line.straight, 1, slope)

    def test_the_error_holds_the_very_value(self):
        for value in [Ratio(-3, 2), Ratio(-4), -4]:
            with self.assertRaises(OutOfRange) as held:
                Line([(0, value)], 0)
            self.assertIs(held.exception.value, value)
            with self.assertRaises(OutOfRange) as held:
                Line([(0, 1), (1, 2)], value)
            self.assertIs(held.exception.value, value)

    def test_corner_after_corner_and_load_before_time(self):
        self.refused(OutOfRange(1), Line, [(1, -2), (0, -3)], -4)
        self.refused(OutOfRange(-2), Line, [(0, -2), (0, -3)], -4)
        self.refused(OutOfRange(0), Line, [(0, 2), (0, -3)], -4)
        self.refused(OutOfRange(-3), Line, [(0, 2), (1, -3), (1, -5)], -4)
        self.refused(OutOfRange(1), Line, [(0, 2), (1, 3), (1, -5)], -4)
        self.refused(OutOfRange(-5), Line, [(0, 2), (1, 3), (2, -5)], -4)
        self.refused(OutOfRange(-4), Line, [(0, 2), (1, 3), (2, 5)], -4)
        self.assertEqual(texts(Line([(0, 2), (1, 3), (2, 5)], 4))[1], "4")

    def test_equal_times_are_allowed(self):
        self.assertEqual(texts(Line([(0, 2), (1, 2), (2, 3)], 0)), ([("0", "2"), ("1", "2"), ("2", "3")], "0"))

    def test_zero_everywhere_is_allowed(self):
        self.assertEqual(texts(Line([(0, 0)], 0)), ([("0", "0")], "0"))


class Corners(ErrorCase):
    def test_kinds(self):
        for line in [Line([(0, 1), (2, 5)], 0), Line([[0, 1], [2, 5]], 3), Line.straight(2), Line.straight(HALF, THIRD)]:
            self.assertIs(line.corners.__class__, tuple)
            for corner in line.corners:
                self.assertIs(corner.__class__, tuple)
                self.assertEqual([value.__class__ for value in corner], [Ratio, Ratio])
            self.assertIs(line.slope.__class__, Ratio)

    def test_corners_that_bend_stay(self):
        line = Line([(0, 1), (HALF, 1), (2, Ratio(5, 2)), (3, 3)], 4)
        expected = [("0", "1"), ("1/2", "1"), ("2", "5/2"), ("3", "3")]
        self.assertEqual(texts(line), (expected, "4"))

    def test_corners_that_do_not_bend_are_left_out(self):
        self.assertEqual(texts(Line([(0, 1), (1, 2), (2, 3), (3, 5)], 2)), ([("0", "1"), ("2", "3")], "2"))
        self.assertEqual(texts(Line([(0, 1), (1, 2), (2, 3), (4, 5)], 1)), ([("0", "1")], "1"))
        self.assertEqual(texts(Line([(0, 1), (1, 1), (2, 1), (4, 1)], 0)), ([("0", "1")], "0"))
        self.assertEqual(texts(Line([(0, 1), (1, 1), (2, 1), (4, 1)], 5)), ([("0", "1"), ("4", "1")], "5"))
        self.assertEqual(texts(Line([(0, 0), (THIRD, HALF), (1, Ratio(3, 2))], 0)), ([("0", "0"), ("1", "3/2")], "0"))

    def test_the_last_corner(self):
        self.assertEqual(texts(Line([(0, 1), (2, 5)], 2)), ([("0", "1")], "2"))
        self.assertEqual(texts(Line([(0, 1), (2, 5)], Ratio(4, 2))), ([("0", "1")], "2"))
        self.assertEqual(texts(Line([(0, 1), (2, 5)], 3)), ([("0", "1"), ("2", "5")], "3"))
        self.assertEqual(texts(Line([(0, 1), (2, 5)], 1)), ([("0", "1"), ("2", "5")], "1"))

    def test_the_corner_at_the_load_zero_stays(self):
        for slope in [0, 1, HALF]:
            self.assertEqual(texts(Line([(0, 3)], slope)), ([("0", "3")], str(slope)))

    def test_slight_bends_stay(self):
        near = 10 ** 15
        line = Line([(0, 0), (near, near), (near + 1, near + 1), (near + 2, near + 2)], Ratio(10 ** 9 + 1, 10 ** 9))
        self.assertEqual(texts(line), ([("0", "0"), (str(near + 2), str(near + 2))], "1000000001/1000000000"))

    def test_six_corners_and_more(self):
        for many in [6, 24, 60]:
            corners = [(at, at * at) for at in range(many)]
            line = Line(corners, 2 * many)
            self.assertEqual(texts(line)[0], [(str(load), str(time)) for load, time in corners])

    def test_integers_and_ratios_alike(self):
        plain = Line([(0, 1), (2, 5), (3, 6)], 4)
        mixed = Line([(Ratio(0), 1), (2, Ratio(5)), (Ratio(6, 2), Ratio(12, 2))], Ratio(4))
        self.assertEqual(texts(plain), texts(mixed))
        self.assertIs(plain == mixed, True)

    def test_lists_and_tuples_alike(self):
        corners = [(0, 1), (2, 5), (3, 6)]
        for given in [tuple(corners), [list(corner) for corner in corners], tuple(list(corner) for corner in corners)]:
            self.assertIs(Line(given, 4) == Line(corners, 4), True)

    def test_arguments_by_name(self):
        self.assertIs(Line(slope=4, corners=[(0, 1), (2, 5)]) == Line([(0, 1), (2, 5)], 4), True)

    def test_the_list_stays_and_later_changes_have_no_effect(self):
        corners = [[0, 1], [1, 2], [2, 5]]
        line = Line(corners, 4)
        self.assertEqual(corners, [[0, 1], [1, 2], [2, 5]])
        corners[1][1] = 4
        corners.append([9, 9])
        corners[0] = [0, 0]
        self.assertEqual(texts(line), ([("0", "1"), ("1", "2"), ("2", "5")], "4"))
        self.assertEqual([str(line(load)) for load in [0, 1, 2]], ["1", "2", "5"])

    def test_properties_cannot_be_set(self):
        line = Line([(0, 1), (2, 5)], 4)
        for word in ["corners", "slope"]:
            with self.assertRaises(AttributeError):
                setattr(line, word, 3)
        self.assertEqual(texts(line), ([("0", "1"), ("2", "5")], "4"))


class Equality(ErrorCase):
    def assert_equal(self, one, two, expected):
        self.assertIs(one == two, expected)
        self.assertIs(two == one, expected)
        self.assertIs(one != two, not expected)

    def test_same_times_from_other_corners(self):
        line = Line([(0, 1), (2, 5)], 1)
        self.assert_equal(line, Line([(0, 1), (2, 5)], 1), True)
        self.assert_equal(line, Line([(0, 1), (1, 3), (2, 5), (3, 6)], 1), True)
        self.assert_equal(Line([(0, 1), (9, 1)], 0), Line.straight(1), True)

    def test_other_lines(self):
        line = Line([(0, 1), (2, 5)], 1)
        others = [
            Line([(0, 1), (2, 5)], 0), Line([(0, 1), (2, 5)], 2), Line([(0, 0), (2, 5)], 1), Line([(0, 1), (2, 4)], 1),
            Line([(0, 1), (3, 5)], 1), Line([(0, 1), (2, 5), (3, 6), (4, 8)], 1), Line.straight(1, 2), Line.straight(1),
            Line([(0, 1), (2, Ratio(5 * 10 ** 9 + 1, 10 ** 9))], 1),
        ]
        for other in others:
            self.assert_equal(line, other, False)

    def test_lines_that_are_moved(self):
        self.assert_equal(Line([(0, 1), (2, 5)], 1), Line([(0, 2), (2, 6)], 1), False)
        self.assert_equal(Line.straight(1), Line.straight(2), False)
        self.assert_equal(Line([(0, 0), (1, 0)], 2), Line([(0, 0), (3, 0)], 2), False)

    def test_lines_that_differ_at_the_load_zero_only_in_their_first_piece(self):
        self.assert_equal(Line([(0, 0), (1, 2)], 0), Line([(0, 1), (1, 2)], 0), False)

    def test_values_of_another_kind(self):
        line = Line.straight(1)
        others = [1, 0, Ratio(1), ((Ratio(0), Ratio(1)),), [(0, 1)], "1", None, True, {}, object(), line.corners,
                  Network([("a", "s", "t")], "s", "t"), Building.link("a", "s", "t")]
        for other in others:
            self.assert_equal(line, other, False)


class Times(ErrorCase):
    def assert_times(self, line, times):
        for load, time in times.items():
            for value in [ratio(load), int(load)] if load.isdigit() else [ratio(load)]:
                self.assertIs(line(value).__class__, Ratio)
                self.assertEqual(str(line(value)), time)

    def test_at_between_and_behind_corners(self):
        line = Line([(0, 1), (2, 5), (5, 6)], Ratio(1, 2))
        self.assert_times(line, {"0": "1", "2": "5", "5": "6"})
        self.assert_times(line, {"1": "3", "1/2": "2", "1/3": "5/3", "3": "16/3", "7/2": "11/2"})
        self.assert_times(line, {"6": "13/2", "7": "7", "16/3": "37/6", "105": "56"})

    def test_flat_pieces(self):
        line = Line([(0, 0), (1, 0), (2, 3), (4, 3)], 0)
        self.assert_times(line, {"0": "0", "1/2": "0", "1": "0", "3/2": "3/2", "2": "3", "3": "3", "4": "3", "9": "3"})
        self.assert_times(Line([(0, 1), (4, 1)], 5), {"0": "1", "4": "1", "5": "6", "9/2": "7/2"})

    def test_corners_that_are_left_out(self):
        line = Line([(0, 1), (1, 2), (2, 3), (3, 5)], 2)
        self.assert_times(line, {"0": "1", "1": "2", "2": "3", "3": "5", "4": "7", "5/2": "4"})

    def test_against_each_piece(self):
        corners = [(0, Ratio(2, 3)), (HALF, 1), (2, 1), (Ratio(7, 3), 8), (9, Ratio(17, 2))]
        line = Line(corners, THIRD)
        plain = [(fraction(load), fraction(time)) for load, time in corners]
        for (load, time), (next_load, next_time) in zip(plain, plain[1:]):
            for parts in range(8):
                at = load + (next_load - load) * parts / 7
                expected = time + (next_time - time) * (at - load) / (next_load - load)
                self.assertEqual(fraction(line(ratio(at))), expected)
        for more in range(5):
            self.assertEqual(fraction(line(9 + more)), plain[-1][1] + fraction(THIRD) * more)

    def test_large_loads(self):
        line = Line([(0, 1), (10 ** 15, 10 ** 15)], Ratio(10 ** 15, 10 ** 9 - 1))
        self.assertEqual(str(line(10 ** 15)), str(10 ** 15))
        self.assertEqual(line(10 ** 15 + 1), Ratio(10 ** 15) + Ratio(10 ** 15, 10 ** 9 - 1))

    def test_argument_by_name(self):
        self.assertEqual(str(Line.straight(1, 2)(load=3)), "7")

    def test_loads_below_zero(self):
        for load in [-1, -10 ** 15, -HALF, Ratio(-1, 10 ** 9)]:
            for line in [Line.straight(1, 2), Line([(0, 1), (2, 5)], 1)]:
                self.refused(OutOfRange(load), line, load)
                with self.assertRaises(OutOfRange) as held:
                    line(load)
                self.assertIs(held.exception.value, load)


class Straight(ErrorCase):
    def test_with_and_without_a_slope(self):
        self.assertEqual(texts(Line.straight(3)), ([("0", "3")], "0"))
        self.assertEqual(texts(Line.straight(3, 2)), ([("0", "3")], "2"))
        self.assertEqual(texts(Line.straight(HALF, THIRD)), ([("0", "1/2")], "1/3"))
        self.assertIs(Line.straight(HALF, THIRD) == Line([(0, HALF)], THIRD), True)
        self.assertEqual([str(Line.straight(3)(load)) for load in [0, 1, 5]], ["3", "3", "3"])
        self.assertEqual([str(Line.straight(3, 2)(load)) for load in [0, 1, 5]], ["3", "5", "13"])

    def test_arguments_by_name(self):
        self.assertIs(Line.straight(slope=2, base=3) == Line.straight(3, 2), True)
        self.assertIs(Line.straight(base=3) == Line.straight(3), True)

    def test_refused(self):
        for base in [-1, -HALF]:
            self.refused(OutOfRange(base), Line.straight, base)
            self.refused(OutOfRange(base), Line.straight, base, -7)
        self.refused(OutOfRange(-7), Line.straight, 0, -7)


class Example(ErrorCase):
    def test_refused_corner(self):
        self.refused(OutOfRange(1), Line, [(0, 2), (3, 1)], 0)


if __name__ == "__main__":
    unittest.main()
