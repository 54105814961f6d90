"""Standings of buildings and the lines of their times: points 6, 9, 41 and 42."""

import itertools
import random
import unittest
from fractions import Fraction

from extralink.buildings import Building, chain, fork
from extralink.errors import OutOfRange, UnknownName
from extralink.lines import Line
from extralink.ratios import Ratio
from extralink.standings import Standing, check_standing, standing, time_line
from tests.helper import ErrorCase, Maker, PLACES, every_way, fraction, is_standing, line_time, plans, ratio
from tests.helper import some_building, some_delays

HALF = Ratio(1, 2)
UP = Line.straight(0, 1)
ONE = Line.straight(1)
TOTALS = [1, 3, HALF, Ratio(7, 3), 10 ** 15, Ratio(1, 10 ** 9)]
link = Building.link


def roads():
    return (link("a", "s", "p") | link("b", "s", "p")) + link("c", "p", "t")


def least_at_zero(network, delays):
    return min(sum(line_time(delays[name], 0) for name in way) for way in every_way(network))


class StandingCase(ErrorCase):
    def assert_standing(self, building, delays, total):
        held = standing(building, delays, total)
        network = building.network()
        self.assertIs(held.__class__, Standing)
        self.assertTrue(is_standing(network, delays, total, held), str(building))
        self.assertIs(check_standing(network, delays, total, held), True)
        self.assertEqual(time_line(building, delays)(total), held.times[network.end])
        return held

    def assert_held(self, building, delays, total, loads, times):
        held = self.assert_standing(building, delays, total)
        self.assertEqual({name: str(load) for name, load in held.loads.items()}, loads)
        self.assertEqual({place: str(time) for place, time in held.times.items()}, times)


class ByHand(StandingCase):
    def test_a_link(self):
        line = Line([(0, 2), (1, 3), (2, 3)], 4)
        for total, time in [(HALF, "5/2"), (1, "3"), (2, "3"), (3, "7")]:
            self.assert_held(link("a", "x", "y"), {"a": line}, total, {"a": str(total)}, {"x": "0", "y": time})

    def test_a_chain(self):
        building = chain(link("b", "s", "q"), link("a", "q", "p"), link("c", "p", "t"))
        delays = {"a": UP, "b": Line.straight(1, 2), "c": Line.straight(0)}
        times = {"s": "0", "q": "7", "p": "10", "t": "10"}
        self.assert_held(building, delays, 3, {"a": "3", "b": "3", "c": "3"}, times)

    def test_a_fork(self):
        building = link("a", "s", "t") | link("b", "s", "t")
        delays = {"a": UP, "b": Line.straight(2, 1)}
        self.assert_held(building, delays, 1, {"a": "1", "b": "0"}, {"s": "0", "t": "1"})
        self.assert_held(building, delays, 2, {"a": "2", "b": "0"}, {"s": "0", "t": "2"})
        self.assert_held(building, delays, 3, {"a": "5/2", "b": "1/2"}, {"s": "0", "t": "5/2"})

    def test_a_fork_of_chains(self):
        building = link("a", "s", "p") + link("d", "p", "t") | link("b", "s", "q") + link("e", "q", "t")
        delays = {"a": UP, "b": ONE, "d": ONE, "e": UP}
        times = {"s": "0", "p": "1/2", "q": "1", "t": "3/2"}
        self.assert_held(building, delays, 1, dict.fromkeys("abde", "1/2"), times)

    def test_a_branch_without_load(self):
        building = link("a", "s", "t") | link("b", "s", "q") + (link("c", "q", "t") | link("d", "q", "t"))
        delays = {"a": UP, "b": Line.straight(4), "c": Line.straight(2, 1), "d": Line.straight(3)}
        held = self.assert_standing(building, delays, 5)
        self.assertEqual([str(held.loads[name]) for name in "abcd"], ["5", "0", "0", "0"])
        self.assertEqual(str(held.times["t"]), "5")

    def test_lines_by_hand(self):
        delays = {"a": UP, "b": ONE, "c": Line.straight(0, 2)}
        line = time_line(roads(), delays)
        self.assertIs(line.__class__, Line)
        self.assertIs(line == Line([(0, 0), (1, 3)], 2), True)
        self.assertEqual([str(line(load)) for load in [0, HALF, 1, 2]], ["0", "3/2", "3", "5"])

    def test_the_line_at_zero(self):
        delays = {"a": Line.straight(5), "b": Line.straight(3, 1), "c": Line.straight(HALF, 7)}
        self.assertEqual(str(time_line(roads(), delays)(0)), "7/2")


class Reckoned(StandingCase):
    def test_all_small_forms(self):
        rng = random.Random(6)
        for many in range(1, 5):
            for plan in plans(many):
                for _ in range(4):
                    building = Maker(rng.sample("abcd", 4), rng.sample(PLACES, 6)).build(plan)
                    delays = some_delays(rng, building.network())
                    for total in TOTALS:
                        self.assert_standing(building, delays, total)

    def test_larger_ones(self):
        rng = random.Random(7)
        for _ in range(400):
            building = some_building(rng)
            delays = some_delays(rng, building.network())
            self.assert_standing(building, delays, rng.choice(TOTALS))

    def test_ten_links(self):
        rng = random.Random(8)
        two = ("fork", "link", "link")
        step = ("fork", "link", ("chain", "link", "link"))
        for plan in [
            ("chain", *[two] * 5), ("chain", step, step, ("fork", "link", ("chain", "link", two))),
            ("fork", ("chain", two, two), ("chain", step, two), "link"), ("fork", *["link"] * 10),
        ]:
            building = Maker("jihgfedcba", PLACES).build(plan)
            for total in TOTALS:
                self.assert_standing(building, some_delays(rng, building.network()), total)

    def test_lines_of_many_corners(self):
        corners = [(Ratio(at, 10 ** 9), Ratio(at * at, 10 ** 9)) for at in range(24)]
        building = fork(*[link(name, "s", "t") for name in "abc"]) + link("d", "t", "u")
        delays = {"a": Line(corners, 1), "b": Line(corners, HALF), "c": Line([(0, 0), (1, 10 ** 15)], 0), "d": Line(corners, 0)}
        for total in [*TOTALS, Ratio(10, 10 ** 9), Ratio(65, 10 ** 9)]:
            self.assert_standing(building, delays, total)

    def test_delays_that_the_program_returned(self):
        line = time_line(roads(), {"a": Line([(0, 0), (1, 2)], 0), "b": Line.straight(1, HALF), "c": UP})
        building = (link("a", "s", "t") | link("b", "s", "t")) + link("c", "t", "u")
        for total in TOTALS:
            self.assert_standing(building, {"a": line, "b": line + line, "c": line | UP}, total)

    def test_the_time_at_zero_is_the_least_over_all_ways(self):
        rng = random.Random(9)
        for _ in range(300):
            building = some_building(rng)
            delays = some_delays(rng, building.network())
            at_zero = time_line(building, delays)(0)
            self.assertEqual(fraction(at_zero), least_at_zero(building.network(), delays))

    def test_between_and_behind_the_corners(self):
        rng = random.Random(10)
        for _ in range(60):
            building = some_building(rng, 6)
            delays = some_delays(rng, building.network())
            line = time_line(building, delays)
            loads = [fraction(load) for load, _ in line.corners]
            for load in [*loads[1:], loads[-1] + 5, *[(one + two) / 2 for one, two in zip(loads, loads[1:])]]:
                self.assert_standing(building, delays, ratio(load))


class Errors(ErrorCase):
    def test_the_first_link_without_a_delay(self):
        building = chain(link("d", "s", "p"), link("b", "p", "q"), link("c", "q", "t"))
        for many in range(3):
            for names in itertools.combinations("bcd", many):
                delays = dict.fromkeys([*names, "a", "z", "s"], UP)
                missing = next(name for name in "bcd" if name not in names)
                self.refused(UnknownName(missing), standing, building, delays, 1)
                self.refused(UnknownName(missing), time_line, building, delays)

    def test_the_delay_before_the_total(self):
        self.refused(UnknownName("a"), standing, roads(), {"b": UP, "c": UP}, 0)
        self.refused(UnknownName("a"), standing, roads(), {}, -1)

    def test_totals(self):
        delays = dict.fromkeys("abc", UP)
        for total in [0, -1, Ratio(0), Ratio(-1, 10 ** 9), -10 ** 15]:
            self.refused(OutOfRange(total), standing, roads(), delays, total)
        with self.assertRaises(OutOfRange) as held:
            standing(roads(), delays, 0)
        self.assertIs(held.exception.value.__class__, int)


class Calls(ErrorCase):
    def test_other_keys(self):
        delays = {"a": UP, "b": ONE, "c": UP}
        more = {"z": UP, "s": UP, "": UP, **delays}
        self.assertIs(standing(roads(), more, 3) == standing(roads(), delays, 3), True)
        self.assertIs(time_line(roads(), more) == time_line(roads(), delays), True)

    def test_equal_arguments(self):
        delays = {"a": ONE, "b": ONE, "c": UP}
        first = standing(roads(), delays, 3)
        for order in itertools.permutations(delays.items()):
            self.assertIs(standing(roads(), dict(order), Ratio(6, 2)) == first, True)
        other = (link("b", "s", "p") | link("a", "s", "p")) + link("c", "p", "t")
        self.assertIs(standing(other, delays, 3) == first, True)

    def test_arguments_by_name(self):
        delays = dict.fromkeys("abc", UP)
        self.assertEqual(standing(total=2, delays=delays, building=roads()), standing(roads(), delays, 2))
        self.assertEqual(time_line(delays=delays, building=roads()), time_line(roads(), delays))

    def test_arguments_stay(self):
        delays = {"c": UP, "a": ONE, "b": UP}
        building = roads()
        standing(building, delays, 3)
        time_line(building, delays)
        self.assertEqual(list(delays.items()), [("c", UP), ("a", ONE), ("b", UP)])
        self.assertIs(building == roads(), True)

    def test_a_building_of_parts(self):
        building = roads()
        self.assertEqual(str(time_line(building.parts[0], {"a": UP, "b": UP})(1)), "1/2")

    def test_fractions(self):
        held = standing(roads(), dict.fromkeys("abc", Line.straight(0, Ratio(1, 3))), Ratio(2, 7))
        self.assertEqual(fraction(held.times["t"]), Fraction(1, 7))


class Examples(ErrorCase):
    def test_roads(self):
        delays = {"a": Line.straight(0, 1), "b": Line.straight(1), "c": Line.straight(0, 2)}
        held = standing(roads(), delays, 3)
        told = [str(held.loads["a"]), str(held.times["p"]), str(held.times["t"])]
        self.assertEqual(told, ["1", "1", "7"])
        times = [str(time_line(roads(), delays)(load)) for load in [0, Ratio(1, 2), 3]]
        self.assertEqual(times, ["0", "3/2", "7"])


if __name__ == "__main__":
    unittest.main()
