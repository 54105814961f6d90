"""Witness ways and loads over cuts: points 8, 9 and 43 to 45."""

import itertools
import random
import unittest

from extralink.errors import BadWay, OutOfRange, UnknownName
from extralink.networks import Network
from extralink.ratios import Ratio
from extralink.standings import loads_of, standing
from extralink.witnesses import cut_load, used_witness, witness
from tests.helper import ErrorCase, FOUR, every_way, fraction, line_time, read, some_building
from tests.helper import some_delays, some_network, some_sharing

HALF = Ratio(1, 2)
TWO = read("asp bsp cpt dpt")


def loads(*values):
    return dict(zip("abcdefghij", values))


def reckoned(ways, before, after):
    """The first of some ways whose links all bear no less than before."""
    for way in sorted(ways):
        if all(fraction(after[name]) >= fraction(before[name]) for name in way):
            return way
    return None


def some_values(rng, network):
    return {name: Ratio(rng.randint(-2, 4), rng.randint(1, 2)) for name in network.names}


class Witness(ErrorCase):
    def test_the_first_in_ascending_order(self):
        zero = loads(0, 0, 0, 0)
        self.assertEqual(witness(TWO, zero, loads(1, 1, 1, 1)), ("a", "c"))
        self.assertEqual(witness(TWO, zero, loads(0, 1, 1, 1)), ("b", "c"))
        self.assertEqual(witness(TWO, zero, loads(1, 1, 0, 1)), ("a", "d"))
        self.assertEqual(witness(Network.read(FOUR), loads(0, 0, 0, 0, 0), loads(1, 1, 1, 1, 1)), ("a", "c", "e"))

    def test_not_below_the_load_before(self):
        before = loads(2, 1, HALF, 3)
        self.assertEqual(witness(TWO, before, loads(2, 1, HALF, 3)), ("a", "c"))
        self.assertEqual(witness(TWO, before, loads(1, 1, HALF, 3)), ("b", "c"))
        self.assertEqual(witness(TWO, before, loads(1, Ratio(7, 3), Ratio(1, 3), 3)), ("b", "d"))
        self.assertIsNone(witness(TWO, before, loads(1, Ratio(999, 1000), 3, 3)))
        self.assertIsNone(witness(TWO, before, loads(9, 9, Ratio(1, 3), Ratio(8, 3))))

    def test_links_without_load(self):
        zero = loads(0, 0, 0, 0)
        self.assertIsNone(witness(TWO, zero, zero))
        self.assertIsNone(witness(TWO, zero, loads(1, 1, 0, 0)))
        self.assertIsNone(witness(TWO, zero, loads(0, Ratio(0), 1, 1)))

    def test_values_below_zero(self):
        before = loads(-3, -1, -1, -1)
        self.assertIsNone(witness(TWO, before, loads(-2, -1, 1, 1)))
        self.assertIsNone(witness(TWO, before, loads(0, 0, 0, 0)))
        self.assertEqual(witness(TWO, before, loads(-2, Ratio(1, 9), -1, 1)), ("b", "d"))

    def test_integers_and_ratios(self):
        self.assertEqual(witness(TWO, loads(1, 1, 1, 1), loads(Ratio(1), Ratio(2, 2), 1, 1)), ("a", "c"))
        self.assertEqual(witness(TWO, loads(Ratio(1), 2, 1, 1), loads(1, 1, 1, 1)), ("a", "c"))

    def test_other_keys(self):
        more = {"z": -1, "s": 4, "": 0}
        self.assertEqual(witness(TWO, {**more, **loads(1, 1, 1, 1)}, loads(1, 1, 1, 1)), ("a", "c"))
        self.assertEqual(witness(TWO, loads(1, 1, 1, 1), {**more, **loads(1, 1, 1, 1)}), ("a", "c"))

    def test_unknown_names(self):
        for function in [lambda values: witness(TWO, values, {}), lambda values: witness(TWO, loads(1, 1, 1, 1), values)]:
            for many in range(4):
                for names in itertools.combinations("abcd", many):
                    values = dict.fromkeys([*names[::-1], "z"], 1)
                    missing = next(name for name in "abcd" if name not in names)
                    self.refused(UnknownName(missing), function, values)

    def test_before_comes_before_after(self):
        self.refused(UnknownName("d"), witness, TWO, loads(1, 1, 1), loads(1, 1))
        self.refused(UnknownName("c"), witness, TWO, loads(1, 1, 1, 1), loads(1, 1))

    def test_against_a_search(self):
        rng = random.Random(11)
        met = {True: 0, False: 0}
        for _ in range(800):
            network = some_network(rng, 5, rng.randint(3, 8))
            before, after = some_values(rng, network), some_values(rng, network)
            ways = [way for way in every_way(network) if all(after[name].sign > 0 for name in way)]
            found = witness(network, before, after)
            self.assertEqual(found, reckoned(ways, before, after))
            met[found is None] += 1
        self.assertGreater(min(met.values()), 100)

    def test_buildings_have_one(self):
        rng = random.Random(12)
        for _ in range(400):
            network = some_building(rng).network()
            before = loads_of(network, some_sharing(rng, network, rng.choice([HALF, 2])))
            after = loads_of(network, some_sharing(rng, network, rng.choice([2, 2, 3])))
            found = witness(network, before, after)
            self.assertIn(found, every_way(network))
            for name in found:
                self.assertGreater(fraction(after[name]), 0)
                self.assertGreaterEqual(fraction(after[name]), fraction(before[name]))

    def test_a_bridged_network_may_have_none(self):
        network = Network.read(FOUR)
        before = loads_of(network, {("a", "c", "e"): 1})
        after = loads_of(network, {("a", "d"): HALF, ("b", "e"): HALF})
        self.assertIsNone(witness(network, before, after))

    def test_the_way_shows_that_the_time_did_not_fall(self):
        rng = random.Random(13)
        for _ in range(200):
            building = some_building(rng)
            network = building.network()
            delays = some_delays(rng, network)
            slower = {name: line + some_delays(rng, network)[name] for name, line in delays.items()}
            before, after = standing(building, delays, 2), standing(building, slower, rng.choice([2, 3]))
            way = witness(network, before.loads, after.loads)
            took = [sum(line_time(table[name], held.loads[name]) for name in way)
                    for table, held in [(delays, before), (slower, after)]]
            self.assertEqual(took[1], fraction(after.times[network.end]))
            self.assertLessEqual(fraction(before.times[network.end]), took[0])
            self.assertLessEqual(took[0], took[1])

    def test_calls(self):
        before, after = loads(2, 0, 1, 1), loads(1, 1, 2, 0)
        self.assertEqual(witness(after=after, before=before, network=TWO), ("b", "c"))
        self.assertEqual((before, after), (loads(2, 0, 1, 1), loads(1, 1, 2, 0)))
        self.assertIs(witness(TWO, before, after).__class__, tuple)


class UsedWitness(ErrorCase):
    def test_only_used_ways(self):
        sharing = {("b", "d"): 1, ("a", "d"): 1}
        self.assertEqual(used_witness(TWO, loads(0, 0, 0, 0), sharing), ("a", "d"))
        self.assertEqual(used_witness(TWO, loads(2, 0, 0, 0), sharing), ("b", "d"))
        self.assertIsNone(used_witness(TWO, loads(2, 0, 2, 0), {("a", "d"): 1, ("b", "c"): 1}))

    def test_ways_with_a_load_of_zero_do_not_count(self):
        zero = loads(0, 0, 0, 0)
        self.assertIsNone(used_witness(TWO, zero, {("a", "c"): 0, ("b", "d"): Ratio(0)}))
        self.assertEqual(used_witness(TWO, zero, {("a", "c"): 0, ("a", "d"): 1, ("b", "c"): 1}), ("a", "d"))
        self.assertIsNone(used_witness(TWO, zero, {}))

    def test_the_loads_of_all_ways_count(self):
        sharing = {("a", "c"): 1, ("b", "c"): HALF}
        self.assertEqual(used_witness(TWO, loads(1, 0, Ratio(3, 2), 0), sharing), ("a", "c"))
        self.assertEqual(used_witness(TWO, loads(2, HALF, Ratio(3, 2), 0), sharing), ("b", "c"))
        self.assertIsNone(used_witness(TWO, loads(1, 0, 2, 0), sharing))

    def test_values_below_zero(self):
        self.assertEqual(used_witness(TWO, loads(-1, 9, -1, 9), {("a", "c"): 1}), ("a", "c"))
        self.assertIsNone(used_witness(TWO, loads(-1, 9, -1, 9), {("b", "d"): 1}))

    def test_errors(self):
        sharing = {("a", "c"): -1, ("b",): 1}
        self.refused(UnknownName("b"), used_witness, TWO, {"a": 1, "c": 1, "z": 1}, sharing)
        self.refused(UnknownName("a"), used_witness, TWO, {}, {("a", "c"): 1})
        self.refused(OutOfRange(-1), used_witness, TWO, loads(0, 0, 0, 0), sharing)
        self.refused(BadWay(("b",)), used_witness, TWO, loads(0, 0, 0, 0), {("b",): 1, ("a", "c"): 1})
        self.refused(BadWay(()), used_witness, TWO, loads(0, 0, 0, 0), {("b",): 1, (): 0})

    def test_against_a_search(self):
        rng = random.Random(14)
        met = {True: 0, False: 0}
        for _ in range(800):
            network = some_network(rng, 5, rng.randint(3, 8))
            before, sharing = some_values(rng, network), some_sharing(rng, network)
            used = [way for way, load in sharing.items() if load.sign > 0]
            found = used_witness(network, before, sharing)
            self.assertEqual(found, reckoned(used, before, loads_of(network, sharing)))
            met[found is None] += 1
        self.assertGreater(min(met.values()), 100)

    def test_tailed_buildings_have_one(self):
        rng = random.Random(15)
        met = 0
        while met < 300:
            building = some_building(rng)
            if building.tailed:
                network = building.network()
                before = loads_of(network, some_sharing(rng, network, rng.choice([HALF, 2])))
                sharing = some_sharing(rng, network, rng.choice([2, 3]))
                self.assertIn(used_witness(network, before, sharing), sharing)
                met += 1

    def test_calls(self):
        before, sharing = loads(0, 0, 0, 0), {("b", "d"): 1, ("a", "d"): HALF}
        self.assertEqual(used_witness(sharing=sharing, before=before, network=TWO), ("a", "d"))
        self.assertEqual(list(sharing.items()), [(("b", "d"), 1), (("a", "d"), HALF)])
        self.assertEqual(before, loads(0, 0, 0, 0))
        self.assertEqual(used_witness(TWO, {**before, "z": 9}, sharing), ("a", "d"))


class Cuts(ErrorCase):
    def assert_cut(self, network, values, places, expected):
        for arranged in [list(places), tuple(places), list(places)[::-1], [*places, *places]]:
            found = cut_load(network, values, arranged)
            self.assertIs(found.__class__, Ratio)
            self.assertEqual(str(found), expected)

    def test_by_hand(self):
        values = loads(1, Ratio(5, 2), 4, HALF, 7)
        for places, expected in [
            ("", "0"), ("s", "7/2"), ("p", "7/2"), ("q", "1/2"), ("t", "-15/2"), ("sp", "7"), ("sq", "4"), ("pq", "4"),
            ("spq", "15/2"), ("spqt", "0"), ("st", "-4"), ("pt", "-4"), ("qt", "-7"), ("spt", "-1/2"),
        ]:
            self.assert_cut(Network.read(FOUR), values, places, expected)

    def test_values_below_zero(self):
        self.assert_cut(Network.read(FOUR), loads(-1, Ratio(-1, 2), 3, -4, 0), "s", "-3/2")
        self.assert_cut(Network.read(FOUR), loads(-1, Ratio(-1, 2), 3, -4, 0), "p", "0")

    def test_places_twice(self):
        for places in [["s", "s"], ("s", "s", "s"), ("p", "s", "p", "s", "s")]:
            twice = cut_load(TWO, loads(1, 2, 4, 8), places)
            self.assertEqual(twice, cut_load(TWO, loads(1, 2, 4, 8), sorted(set(places))))

    def test_against_the_words_of_the_document(self):
        rng = random.Random(16)
        for _ in range(300):
            network = some_network(rng, 6, 8)
            values = {**some_values(rng, network), "z": 100}
            places = rng.choices(network.places, k=rng.randint(0, 5))
            out = [name for name in network.names if network[name][0] in places and network[name][1] not in places]
            into = [name for name in network.names if network[name][1] in places and network[name][0] not in places]
            expected = sum(fraction(values[name]) for name in out) - sum(fraction(values[name]) for name in into)
            self.assertEqual(fraction(cut_load(network, values, places)), expected)

    def test_the_total_of_a_sharing(self):
        rng = random.Random(17)
        for _ in range(300):
            network = some_network(rng, 6, 8)
            borne = loads_of(network, some_sharing(rng, network, Ratio(7, 3)))
            inner = network.places[1:-1]
            places = [network.start, *rng.sample(inner, rng.randint(0, len(inner)))]
            self.assertEqual(str(cut_load(network, borne, places)), "7/3")

    def test_unknown_places(self):
        for place in ["x", "", "a", "S", "pp", "s > p"]:
            self.refused(UnknownName(place), cut_load, TWO, loads(1, 1, 1, 1), [place])
            self.refused(UnknownName(place), cut_load, TWO, {}, ("s", "p", place, "y"))
        self.refused(UnknownName("y"), cut_load, TWO, {}, ["s", "y", "x"])

    def test_links_without_a_load(self):
        self.refused(UnknownName("c"), cut_load, TWO, loads(1, 1), ["s"])
        self.refused(UnknownName("a"), cut_load, TWO, {"b": 1, "z": 1}, [])
        self.refused(UnknownName("d"), cut_load, TWO, loads(1, 1, 1), ("s", "p", "t"))

    def test_calls(self):
        values, places = loads(1, 2, 4, 8), ["s"]
        self.assertEqual(str(cut_load(places=places, loads=values, network=TWO)), "3")
        self.assertEqual((values, places), (loads(1, 2, 4, 8), ["s"]))


class Examples(ErrorCase):
    def test_two_forks(self):
        network = Network.read("s > t\na: s > p\nb: s > p\nc: p > t\nd: p > t")
        before = {"a": 2, "b": 0, "c": 1, "d": 1}
        after = {"a": 1, "b": 1, "c": 2, "d": 0}
        told = [witness(network, before, after), witness(network, after, before), str(cut_load(network, after, ["s"]))]
        self.assertEqual(told, [("b", "c"), ("a", "d"), "2"])
        found = used_witness(network, {"a": 2, "b": 0, "c": 2, "d": 0}, {("a", "d"): 1, ("b", "c"): 1})
        self.assertIs(found is None, True)


if __name__ == "__main__":
    unittest.main()
