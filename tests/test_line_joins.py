"""Lines one behind the other and side by side, lines that cover others, and shares: points 27 to 29."""

import itertools
import unittest
from fractions import Fraction

from extralink.errors import BadCount, OutOfRange
from extralink.lines import Line, shares
from extralink.ratios import Ratio
from tests.helper import ErrorCase, fraction, ratio

HALF = Ratio(1, 2)

LINES = [
    Line.straight(0),
    Line.straight(1),
    Line.straight(0, 1),
    Line.straight(1, HALF),
    Line.straight(Ratio(5, 2), 3),
    Line([(0, 0), (1, 0)], 2),
    Line([(0, 1), (2, 1), (3, 4)], 0),
    Line([(0, 0), (1, 2), (3, 2), (4, 3), (6, 3)], 1),
    Line([(0, 0), (HALF, 100)], 0),
    Line([(0, 2), (1, 3), (Ratio(7, 3), 3)], Ratio(10 ** 9, 3)),
]


def probes(*lines):
    """Loads at, between and behind the corners of some lines."""
    at = sorted({fraction(load) for line in lines for load, _ in line.corners})
    between = [(one + two) / 2 for one, two in zip(at, at[1:])]
    return sorted([*at, *between, Fraction(1, 97), at[-1] + 1, at[-1] + 7])


def time(line, load):
    return fraction(line(ratio(load)))


def beside(one, two, load):
    """The least time that the document describes: the least greatest time over all divisions of the load.

    The greater one of a time that rises and a time that falls is least at a
    corner, at an end or where the two meet.
    """
    if load == 0:
        return min(time(one, 0), time(two, 0))
    cuts = {0, load, *[fraction(at) for at, _ in one.corners], *[load - fraction(at) for at, _ in two.corners]}
    cuts = sorted(cut for cut in cuts if 0 <= cut <= load)
    for low, high in zip(cuts[:-1], cuts[1:]):
        below, above = [time(one, cut) - time(two, load - cut) for cut in (low, high)]
        if below < 0 < above:
            cuts.append(low + (high - low) * below / (below - above))
    return min(
        max([time(one, cut)] * (cut > 0) + [time(two, load - cut)] * (cut < load))
        for cut in cuts
    )


class Behind(ErrorCase):
    def test_by_hand(self):
        both = Line([(0, 1), (2, 3)], 0) + Line([(0, 2), (1, 2)], 3)
        loads = [0, HALF, 1, Ratio(11, 5), 2, 3, 4]
        expected = ["3", "7/2", "4", "43/5", "8", "11", "14"]
        self.assertEqual([str(both(load)) for load in loads], expected)
        self.assertEqual([str(load) for load, _ in both.corners], ["0", "1", "2"])
        self.assertEqual(str(both.slope), "3")

    def test_straight_lines(self):
        self.assertEqual(Line.straight(1, 2) + Line.straight(HALF, HALF), Line.straight(Ratio(3, 2), Ratio(5, 2)))
        self.assertEqual(Line.straight(0) + Line.straight(0), Line.straight(0))

    def test_times_are_sums(self):
        for one, two in itertools.product(LINES, repeat=2):
            both = one + two
            self.assertIs(both.__class__, Line)
            for load in probes(one, two, both):
                self.assertEqual(time(both, load), time(one, load) + time(two, load))

    def test_either_way(self):
        for one, two in itertools.combinations(LINES, 2):
            self.assertIs(one + two == two + one, True)

    def test_zero_changes_nothing(self):
        for line in LINES:
            self.assertIs(line + Line.straight(0) == line, True)

    def test_lines_stay(self):
        one, two = Line([(0, 1), (2, 3)], 0), Line([(0, 2), (1, 2)], 3)
        one + two
        one | two
        self.assertIs(one == Line([(0, 1), (2, 3)], 0), True)
        self.assertIs(two == Line([(0, 2), (1, 2)], 3), True)


class Beside(ErrorCase):
    def assert_line(self, line, corners, slope):
        self.assertEqual([(str(load), str(at)) for load, at in line.corners], corners)
        self.assertEqual(str(line.slope), slope)

    def test_two_that_rise(self):
        self.assert_line(Line.straight(0, 1) | Line.straight(0, 1), [("0", "0")], "1/2")
        self.assert_line(Line.straight(0, 2) | Line.straight(0, 3), [("0", "0")], "6/5")
        self.assert_line(Line.straight(0, HALF) | Line.straight(0, HALF), [("0", "0")], "1/4")

    def test_other_times_at_zero(self):
        self.assert_line(Line.straight(0, 1) | Line.straight(3, 1), [("0", "0"), ("3", "3")], "1/2")
        self.assert_line(Line.straight(3, 2) | Line.straight(1, 1), [("0", "1"), ("2", "3")], "2/3")

    def test_a_flat_one(self):
        self.assert_line(Line.straight(0, 1) | Line.straight(1), [("0", "0"), ("1", "1")], "0")
        self.assert_line(Line.straight(4) | Line.straight(1), [("0", "1")], "0")
        self.assert_line(Line.straight(1) | Line.straight(1), [("0", "1")], "0")
        self.assert_line(Line.straight(1) | Line.straight(1, 5), [("0", "1")], "0")
        self.assert_line(Line.straight(0) | Line([(0, 1), (1, 9)], 9), [("0", "0")], "0")

    def test_flat_pieces(self):
        one = Line([(0, 0), (1, 1), (3, 1)], 1)
        self.assert_line(one | Line.straight(0, 1), [("0", "0"), ("2", "1"), ("4", "1")], "1/2")
        self.assert_line(one | one, [("0", "0"), ("2", "1"), ("6", "1")], "1/2")
        self.assert_line(one | Line.straight(1, 1), [("0", "0"), ("1", "1"), ("3", "1")], "1/2")
        self.assert_line(one | Line([(0, 1), (2, 1)], 1), [("0", "0"), ("1", "1"), ("5", "1")], "1/2")

    def test_flat_at_the_load_zero(self):
        one = Line([(0, 1), (2, 1)], 1)
        self.assert_line(one | one, [("0", "1"), ("4", "1")], "1/2")
        self.assert_line(one | Line.straight(3), [("0", "1"), ("2", "1"), ("4", "3")], "0")

    def test_flat_from_some_load_on(self):
        one = Line([(0, 0), (2, 4)], 0)
        self.assert_line(one | Line.straight(1, 1), [("0", "0"), ("1/2", "1"), ("5", "4")], "0")
        self.assert_line(one | Line.straight(4, 1), [("0", "0"), ("2", "4")], "0")
        self.assert_line(one | Line.straight(5, 1), [("0", "0"), ("2", "4")], "0")
        self.assert_line(one | Line([(0, 0), (1, 4)], 0), [("0", "0"), ("3", "4")], "0")
        self.assert_line(one | Line([(0, 0), (1, 3)], 0), [("0", "0"), ("5/2", "3")], "0")

    def test_a_steep_piece(self):
        steep = Line([(0, 0), (Ratio(1, 10 ** 9), 10 ** 6)], 1)
        both = steep | Line.straight(0, 1)
        self.assertEqual(both(0), Ratio(0))
        self.assertEqual(time(both, Fraction(1)), beside(steep, Line.straight(0, 1), Fraction(1)))
        self.assertEqual(str(both.slope), "1/2")

    def test_the_load_zero(self):
        for one, two in itertools.product(LINES, repeat=2):
            self.assertEqual(time(one | two, 0), min(time(one, 0), time(two, 0)))

    def test_times_are_the_least(self):
        for one, two in itertools.product(LINES, repeat=2):
            both = one | two
            self.assertIs(both.__class__, Line)
            for load in probes(one, two, both):
                self.assertEqual(time(both, load), beside(one, two, load))

    def test_three_lines(self):
        for one, two, three in itertools.product(LINES[2:8], repeat=3):
            self.assertIs((one | two) | three == one | (two | three), True)
            self.assertIs((one + two) | three == three | (two + one), True)

    def test_many_corners(self):
        one = Line([(at, at * at) for at in range(24)], 60)
        two = Line([(at, Ratio(at * at, 2)) for at in range(24)], 40)
        both = one | two
        self.assertGreater(len(both.corners), 24)
        for load in probes(both)[::5]:
            self.assertEqual(time(both, load), beside(one, two, load))


class Covers(ErrorCase):
    def test_by_hand(self):
        low, high = Line([(0, 1), (2, 3)], 0), Line([(0, 1), (1, 3)], 0)
        self.assertIs(high.covers(low), True)
        self.assertIs(low.covers(high), False)

    def test_itself_and_equal_lines(self):
        for line in LINES:
            self.assertIs(line.covers(line), True)
            self.assertIs(line.covers(line + Line.straight(0)), True)

    def test_higher_lines(self):
        for line in LINES:
            for more in [Line.straight(Ratio(1, 10 ** 9)), Line.straight(0, Ratio(1, 10 ** 9)), Line([(0, 0), (9, 1)], 0)]:
                self.assertIs((line + more).covers(line), True)
                self.assertIs(line.covers(line + more), False)

    def test_lines_that_cross(self):
        for one, two in [(Line.straight(0, 2), Line.straight(1, 1)), (Line.straight(5), Line.straight(0, Ratio(1, 99)))]:
            self.assertIs(one.covers(two), False)
            self.assertIs(two.covers(one), False)

    def test_below_at_one_corner_only(self):
        flat = Line.straight(3)
        self.assertIs(Line([(0, 3), (1, 3)], 1).covers(flat), True)
        self.assertIs(flat.covers(Line([(0, 0), (2, 4)], 0)), False)
        self.assertIs(Line([(0, 0), (2, 2)], 9).covers(Line([(0, 0), (1, 1), (2, 2), (3, 3)], 1)), True)
        self.assertIs(Line([(0, 0), (4, 4)], 9).covers(Line([(0, 0), (1, 2), (4, 4)], 1)), False)
        self.assertIs(Line([(0, 0), (1, 0), (2, 9)], 9).covers(Line.straight(0, 1)), False)

    def test_below_behind_all_corners_only(self):
        self.assertIs(Line([(0, 9), (5, 9)], 1).covers(Line([(0, 0), (3, 1)], 2)), False)
        self.assertIs(Line([(0, 9), (5, 9)], 2).covers(Line([(0, 0), (3, 1)], 2)), True)

    def test_touching_lines(self):
        self.assertIs(Line.straight(0, 1).covers(Line([(0, 0), (1, 0), (2, 2)], 0)), True)

    def test_all_pairs(self):
        for one, two in itertools.product(LINES, repeat=2):
            loads = [*probes(one, two), 10 ** 12]
            expected = all(time(one, load) >= time(two, load) for load in loads)
            self.assertIs(one.covers(two), expected)

    def test_argument_by_name(self):
        self.assertIs(Line.straight(1).covers(other=Line.straight(0)), True)


class Shares(ErrorCase):
    def assert_shares(self, lines, load):
        parts = shares(lines, load)
        self.assertIs(parts.__class__, tuple)
        self.assertEqual([part.__class__ for part in parts], [Ratio] * len(lines))
        self.assertTrue(all(fraction(part) >= 0 for part in parts))
        self.assertEqual(sum(fraction(part) for part in parts), fraction(load))
        used = {time(line, fraction(part)) for line, part in zip(lines, parts) if part.sign == 1}
        self.assertLessEqual(len(used), 1)
        for line, part in zip(lines, parts):
            if part.sign == 0 and used:
                self.assertGreaterEqual(time(line, 0), min(used))

    def texts(self, lines, load):
        return [str(part) for part in shares(lines, load)]

    def test_one_line(self):
        for line in LINES:
            for load in [0, 1, HALF, 10 ** 15]:
                self.assertEqual(self.texts([line], load), [str(load)])

    def test_by_hand(self):
        self.assertEqual(self.texts([Line.straight(0, 1), Line.straight(0, 2)], 3), ["2", "1"])
        self.assertEqual(self.texts([Line.straight(0, 1), Line.straight(2, 1)], 1), ["1", "0"])
        self.assertEqual(self.texts([Line.straight(0, 1), Line.straight(2, 1)], 2), ["2", "0"])
        self.assertEqual(self.texts([Line.straight(0, 1), Line.straight(2, 1)], 3), ["5/2", "1/2"])
        self.assertEqual(self.texts([Line.straight(2, 1), Line.straight(0, 1)], 3), ["1/2", "5/2"])
        self.assertEqual(self.texts([Line.straight(5), Line.straight(0, 1), Line.straight(3)], 4), ["0", "3", "1"])

    def test_two_lines(self):
        for one, two in itertools.product(LINES, repeat=2):
            for load in [*probes(one, two), fraction(one.corners[-1][0] + two.corners[-1][0])]:
                self.assert_shares([one, two], ratio(load))

    def test_up_to_six_lines(self):
        for many in range(1, 7):
            for lines in itertools.combinations(LINES, many):
                for load in [0, Ratio(1, 7), 1, Ratio(7, 2), 40]:
                    self.assert_shares(lines, load)

    def test_more_than_six_lines(self):
        for load in [0, 1, 1000]:
            self.assert_shares(LINES, load)

    def test_the_same_line_several_times(self):
        for line in LINES:
            for load in [0, 1, 5, Ratio(22, 7)]:
                self.assert_shares([line] * 4, load)

    def test_flat_pieces_take_no_more_than_they_hold(self):
        one = Line([(0, 1), (2, 1)], 1)
        self.assert_shares([one, one], 3)
        self.assert_shares([one, one, one], 5)
        self.assertEqual(self.texts([one, one], 4), ["2", "2"])
        self.assertEqual(self.texts([one, one], 6), ["3", "3"])

    def test_the_load_zero(self):
        for many in range(1, 7):
            for lines in [LINES[:many], tuple(LINES[-many:])]:
                for none in [0, Ratio(0)]:
                    self.assertEqual(self.texts(lines, none), ["0"] * many)

    def test_large_numbers(self):
        one = Line([(0, 0), (Ratio(10 ** 15, 10 ** 9 - 1), Ratio(1, 10 ** 9))], Ratio(10 ** 15, 10 ** 9 - 7))
        self.assert_shares([one, Line.straight(Ratio(1, 10 ** 9), Ratio(1, 10 ** 9 - 9)), one | one], 10 ** 15)

    def test_shares_that_were_returned_are_loads(self):
        lines = [Line.straight(0, Ratio(10 ** 15, 10 ** 9 - part)) for part in [1, 7, 63]]
        parts = shares(lines, 1)
        self.assert_shares(lines, parts[0])
        self.assert_shares([lines[0] | lines[1], lines[2]], parts[1])

    def test_lists_and_tuples_integers_and_ratios(self):
        lines = [LINES[2], LINES[5], LINES[7]]
        for load in [0, 3, 11]:
            expected = self.texts(lines, load)
            for given in [lines, tuple(lines), [Line(line.corners, line.slope) for line in lines]]:
                self.assertEqual(self.texts(given, load), expected)
                self.assertEqual(self.texts(given, Ratio(load)), expected)

    def test_lines_stay(self):
        lines = [LINES[2], LINES[5]]
        shares(lines, 7)
        self.assertEqual(len(lines), 2)
        self.assertIs(lines[0], LINES[2])
        self.assertIs(lines[1], LINES[5])

    def test_arguments_by_name(self):
        parts = shares(load=3, lines=[Line.straight(0, 1), Line.straight(0, 2)])
        self.assertEqual([str(part) for part in parts], ["2", "1"])

    def test_no_line(self):
        for none in [[], ()]:
            for load in [0, 1, -1, -HALF]:
                self.refused(BadCount(0), shares, none, load)

    def test_a_load_below_zero(self):
        for load in [-1, -HALF, Ratio(-1, 10 ** 9)]:
            self.refused(OutOfRange(load), shares, LINES[:3], load)
            with self.assertRaises(OutOfRange) as held:
                shares(LINES[:1], load)
            self.assertIs(held.exception.value, load)


class Example(ErrorCase):
    def test_as_it_stands(self):
        both = Line.straight(0, 1) | Line.straight(1)
        self.assertEqual([str(both(load)) for load in [0, 1, 5]], ["0", "1", "1"])
        parts = shares([Line.straight(0, 1), Line.straight(1)], 5)
        self.assertEqual([str(part) for part in parts], ["1", "4"])


if __name__ == "__main__":
    unittest.main()
