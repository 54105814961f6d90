"""Loads of sharings, times of ways, and standings as objects: points 2, 5, 9, 10 and 38 to 40."""

import itertools
import random
import unittest

from extralink.errors import BadWay, OutOfRange
from extralink.lines import Line
from extralink.networks import Network
from extralink.ratios import Ratio
from extralink.standings import Standing, loads_of, way_time
from tests.helper import ErrorCase, FOUR, every_way, fraction, networks, read, some_network, some_sharing

HALF = Ratio(1, 2)


def texts(loads):
    return {name: str(load) for name, load in loads.items()}


class Loads(ErrorCase):
    def assert_loads(self, network, sharing, expected):
        loads = loads_of(network, sharing)
        self.assertIs(loads.__class__, dict)
        for load in loads.values():
            self.assertIs(load.__class__, Ratio)
        self.assertEqual(texts(loads), expected)

    def test_one_way(self):
        network = Network.read(FOUR)
        self.assert_loads(network, {("a", "c", "e"): 3}, {"a": "3", "b": "0", "c": "3", "d": "0", "e": "3"})
        self.assert_loads(network, {("a", "d"): HALF}, {"a": "1/2", "b": "0", "c": "0", "d": "1/2", "e": "0"})
        self.assert_loads(Network([("a", "s", "t")], "s", "t"), {("a",): Ratio(6, 4)}, {"a": "3/2"})

    def test_several_ways(self):
        sharing = {("b", "e"): 2, ("a", "d"): HALF, ("a", "c", "e"): Ratio(1, 3)}
        expected = {"a": "5/6", "b": "2", "c": "1/3", "d": "1/2", "e": "7/3"}
        self.assert_loads(Network.read(FOUR), sharing, expected)

    def test_loads_of_zero(self):
        none = dict.fromkeys("abcde", "0")
        self.assert_loads(Network.read(FOUR), {}, none)
        self.assert_loads(Network.read(FOUR), {("a", "d"): 0, ("b", "e"): Ratio(0)}, none)
        self.assert_loads(Network.read(FOUR), {("a", "d"): 0, ("b", "e"): 1}, {**none, "b": "1", "e": "1"})

    def test_integers_and_ratios_count_alike(self):
        network = Network.read(FOUR)
        self.assertEqual(loads_of(network, {("a", "d"): 2}), loads_of(network, {("a", "d"): Ratio(4, 2)}))

    def test_large_loads(self):
        sharing = {("a", "d"): 10 ** 15, ("a", "c", "e"): Ratio(1, 10 ** 9)}
        self.assertEqual(loads_of(Network.read(FOUR), sharing)["a"], Ratio(10 ** 24 + 1, 10 ** 9))

    def test_sums_over_the_ways(self):
        rng = random.Random(1)
        for _ in range(200):
            network = some_network(rng, 6, 8)
            sharing = some_sharing(rng, network)
            loads = loads_of(network, sharing)
            self.assertEqual(set(loads), set(network.names))
            for name in network.names:
                borne = sum(fraction(load) for way, load in sharing.items() if name in way)
                self.assertEqual(fraction(loads[name]), borne)

    def test_every_way_is_taken_and_nothing_else(self):
        for network in networks():
            ways = every_way(network)
            for way in ways:
                self.assertEqual(fraction(loads_of(network, {way: 1})[way[0]]), 1)
            for many in range(3):
                for names in itertools.product(network.names, repeat=many):
                    if names not in ways:
                        self.refused(BadWay(names), loads_of, network, {names: 1})

    def test_bad_ways(self):
        network = read("asp bpq cqt dst epq")
        for way in [
            (), ("a",), ("a", "b"), ("b", "c"), ("b",), ("c",), ("a", "c"), ("c", "b", "a"), ("a", "b", "b", "c"),
            ("a", "b", "e", "c"), ("d", "d"), ("d", "a", "b", "c"), ("f",), ("a", "b", "f"), ("", "d"), ("d", ""),
            ("a", "b", "c", "zz"), ("s", "t"), ("abc",), ("D",), ("d ",),
        ]:
            self.refused(BadWay(way), loads_of, network, {way: 1})
            self.refused(BadWay(way), loads_of, network, {way: 0})
            self.refused(BadWay(way), loads_of, network, {way: -1})

    def test_loads_below_zero(self):
        network = Network.read(FOUR)
        for load in [-1, Ratio(-1, 10 ** 9), -10 ** 15]:
            self.refused(OutOfRange(load), loads_of, network, {("a", "d"): load})
        with self.assertRaises(OutOfRange) as held:
            loads_of(network, {("a", "d"): -1})
        self.assertIs(held.exception.value.__class__, int)

    def test_the_first_error_in_the_order_of_the_ways(self):
        network = Network.read(FOUR)
        items = [(("a", "c"), 1), (("a", "d"), -1), (("b",), 1), (("b", "e"), -2), (("z",), -3)]
        errors = [BadWay(("a", "c")), OutOfRange(-1), BadWay(("b",)), OutOfRange(-2), BadWay(("z",))]
        for at, error in enumerate(errors):
            for order in itertools.permutations(items[at:]):
                self.refused(error, loads_of, network, dict(order))

    def test_the_sharing_stays_and_the_loads_are_new(self):
        network = Network.read(FOUR)
        sharing = {("a", "d"): 1, ("b", "e"): HALF}
        loads = loads_of(network, sharing)
        loads["a"] = Ratio(9)
        del loads["b"]
        self.assertEqual(list(sharing.items()), [(("a", "d"), 1), (("b", "e"), HALF)])
        self.assertEqual(texts(loads_of(network, sharing)), {"a": "1", "b": "1/2", "c": "0", "d": "1", "e": "1/2"})

    def test_arguments_by_name(self):
        self.assertEqual(str(loads_of(sharing={("a", "d"): 1}, network=Network.read(FOUR))["a"]), "1")


class WayTimes(ErrorCase):
    DELAYS = {"a": Line.straight(1, 2), "b": Line([(0, 0), (1, 3)], HALF), "c": Line.straight(HALF)}

    def assert_time(self, loads, way, expected):
        time = way_time(self.DELAYS, loads, way)
        self.assertIs(time.__class__, Ratio)
        self.assertEqual(str(time), expected)

    def test_sums(self):
        loads = {"a": 1, "b": Ratio(2, 3), "c": 5}
        self.assert_time(loads, ("a",), "3")
        self.assert_time(loads, ("b",), "2")
        self.assert_time(loads, ("a", "b", "c"), "11/2")
        self.assert_time(loads, ("c", "a"), "7/2")

    def test_a_name_that_stands_twice(self):
        self.assert_time({"a": 1, "c": 0}, ("a", "a"), "6")
        self.assert_time({"a": 1, "c": 0}, ("c", "a", "c", "c"), "9/2")

    def test_no_names(self):
        self.assert_time({"a": 1}, (), "0")
        self.assert_time({}, (), "0")
        self.assertIs(way_time({}, {}, ()) == Ratio(0), True)

    def test_loads(self):
        for load, expected in [(0, "1"), (Ratio(0), "1"), (3, "7"), (Ratio(3), "7"), (Ratio(1, 4), "3/2")]:
            self.assert_time({"a": load}, ("a",), expected)
        self.assert_time({"b": 10 ** 15}, ("b",), "1000000000000005/2")

    def test_other_keys(self):
        loads = {"a": 1, "x": -5, "c": -1}
        self.assertEqual(way_time({**self.DELAYS, "y": Line.straight(9)}, loads, ("a",)), Ratio(3))
        self.assertEqual(way_time({"a": Line.straight(1, 2)}, loads, ("a",)), Ratio(3))

    def test_arguments_by_name(self):
        self.assertEqual(way_time(way=("a",), loads={"a": 1}, delays=self.DELAYS), Ratio(3))

    def test_arguments_stay(self):
        delays, loads = dict(self.DELAYS), {"a": 1, "b": HALF}
        way_time(delays, loads, ("a", "b"))
        self.assertEqual((delays, loads), (self.DELAYS, {"a": 1, "b": HALF}))
        self.assertIs(loads["a"].__class__, int)


class Standings(ErrorCase):
    def test_ratios_where_integers_were_passed(self):
        held = Standing({"a": 1, "b": HALF}, {"s": 0, "t": Ratio(7, 3)})
        for value in [*held.loads.values(), *held.times.values()]:
            self.assertIs(value.__class__, Ratio)
        self.assertEqual(texts(held.loads), {"a": "1", "b": "1/2"})
        self.assertEqual(texts(held.times), {"s": "0", "t": "7/3"})

    def test_any_keys_and_values(self):
        held = Standing({}, {})
        self.assertEqual((held.loads, held.times), ({}, {}))
        held = Standing({"zz": -1}, {"q": Ratio(-5, 2)})
        self.assertEqual((texts(held.loads), texts(held.times)), ({"zz": "-1"}, {"q": "-5/2"}))

    def test_new_dicts_for_each_call(self):
        held = Standing({"a": 1}, {"s": 0, "t": 4})
        held.loads["a"] = Ratio(5)
        held.loads["b"] = Ratio(5)
        held.times.clear()
        self.assertIsNot(held.loads, held.loads)
        self.assertIsNot(held.times, held.times)
        self.assertEqual((texts(held.loads), texts(held.times)), ({"a": "1"}, {"s": "0", "t": "4"}))

    def test_what_was_passed_may_change_later(self):
        loads, times = {"a": 1}, {"s": 0, "t": 4}
        held = Standing(loads, times)
        loads["a"] = 2
        loads["b"] = 2
        times.clear()
        self.assertEqual((texts(held.loads), texts(held.times)), ({"a": "1"}, {"s": "0", "t": "4"}))

    def test_what_was_passed_stays(self):
        loads, times = {"b": 1, "a": HALF}, {"t": 4}
        held = Standing(times=times, loads=loads)
        self.assertEqual((list(loads.items()), times), ([("b", 1), ("a", HALF)], {"t": 4}))
        self.assertIs(loads["b"].__class__, int)
        self.assertEqual(texts(held.loads), {"a": "1/2", "b": "1"})

    def test_equal(self):
        held = Standing({"a": 1, "b": 2}, {"s": 0, "t": 4})
        self.assertIs(held == Standing({"b": 2, "a": Ratio(2, 2)}, {"t": Ratio(4), "s": 0}), True)
        self.assertIs(held != Standing({"b": 2, "a": 1}, {"t": 4, "s": 0}), False)
        self.assertIs(Standing({}, {}) == Standing({}, {}), True)

    def test_not_equal(self):
        held = Standing({"a": 1, "b": 2}, {"s": 0, "t": 4})
        for other in [
            Standing({"a": 1, "b": 3}, {"s": 0, "t": 4}), Standing({"a": 1, "b": 2}, {"s": 0, "t": 5}),
            Standing({"a": 1}, {"s": 0, "t": 4}), Standing({"a": 1, "b": 2, "c": 0}, {"s": 0, "t": 4}),
            Standing({"a": 1, "c": 2}, {"s": 0, "t": 4}), Standing({"a": 1, "b": 2}, {"t": 4}),
            Standing({"a": 1, "b": 2}, {"s": 0, "t": 4, "p": 0}), Standing({"s": 0, "t": 4}, {"a": 1, "b": 2}),
        ]:
            self.assertIs(held == other, False)
            self.assertIs(held != other, True)

    def test_values_of_another_kind(self):
        held = Standing({"a": 1}, {"s": 0})
        for other in [None, 0, "", {}, {"a": 1}, ({"a": 1}, {"s": 0}), [], Ratio(1), Line.straight(1)]:
            self.assertIs(held == other, False)
            self.assertIs(other == held, False)
            self.assertIs(held != other, True)


if __name__ == "__main__":
    unittest.main()
