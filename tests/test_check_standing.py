"""What check_standing accepts: points 6, 9 and 40."""

import random
import unittest

from extralink.lines import Line
from extralink.networks import Network
from extralink.ratios import Ratio
from extralink.standings import Standing, check_standing
from tests.helper import FOUR, ErrorCase, every_way, fraction, is_standing, line_time, networks, read
from tests.helper import some_delays, some_network

HALF = Ratio(1, 2)
UP = Line.straight(0, 1)

# A network, delays, a total, loads and times.
BRIDGE = Network.read(FOUR)
DELAYS = {"a": UP, "b": Line.straight(1), "c": Line.straight(0), "d": Line.straight(1), "e": UP}
LOADS = {"a": 1, "b": 0, "c": 1, "d": 0, "e": 1}
TIMES = {"s": 0, "p": 1, "q": 1, "t": 2}


def checked(network, delays, total, loads, times):
    return check_standing(network, delays, total, Standing(loads, times))


class Right(ErrorCase):
    def assert_right(self, network, delays, total, loads, times):
        self.assertIs(checked(network, delays, total, loads, times), True)
        self.assertTrue(is_standing(network, delays, total, Standing(loads, times)))

    def test_over_the_bridge(self):
        self.assert_right(BRIDGE, DELAYS, 1, LOADS, TIMES)
        self.assert_right(BRIDGE, DELAYS, Ratio(1), LOADS, TIMES)

    def test_without_the_bridge(self):
        network = BRIDGE.without(["c"])
        times = {"s": 0, "p": HALF, "q": 1, "t": Ratio(3, 2)}
        self.assert_right(network, DELAYS, 1, {name: HALF for name in "abde"}, times)

    def test_a_link(self):
        network = Network([("a", "s", "t")], "s", "t")
        for total in [1, HALF, Ratio(1, 10 ** 9), 10 ** 15]:
            self.assert_right(network, {"a": Line.straight(3, 2)}, total, {"a": total}, {"s": 0, "t": 2 * total + 3})

    def test_delays_of_other_links_have_no_influence(self):
        self.assert_right(BRIDGE, {**DELAYS, "z": UP, "s": UP}, 1, LOADS, TIMES)

    def test_several_standings_with_flat_delays(self):
        network = read("ast bst cst")
        delays = {"a": Line.straight(1), "b": Line.straight(1), "c": Line([(0, 0), (1, 1)], 0)}
        for loads in [(3, 0, 1), (0, 3, 1), (1, 2, 1), (0, 0, 4), (HALF, HALF, 3)]:
            self.assert_right(network, delays, 4, dict(zip("abc", loads)), {"s": 0, "t": 1})
        for loads in [(4, 0, 0), (3, HALF, HALF), (0, 4, 0)]:
            self.assertIs(checked(network, delays, 4, dict(zip("abc", loads)), {"s": 0, "t": 1}), False)

    def test_the_time_of_a_place_without_load(self):
        network = read("ast bsq cqt")
        delays = {"a": Line.straight(1), "b": Line.straight(5), "c": Line.straight(3)}
        loads = {"a": 1, "b": 0, "c": 0}
        for time in [-2, 0, HALF, 5]:
            self.assert_right(network, delays, 1, loads, {"s": 0, "q": time, "t": 1})
        for time in [-3, Ratio(-2000001, 1000000), Ratio(5000001, 1000000), 6]:
            self.assertIs(checked(network, delays, 1, loads, {"s": 0, "q": time, "t": 1}), False)

    def test_delays_of_zero(self):
        delays = dict.fromkeys("abcde", Line.straight(0))
        self.assert_right(BRIDGE, delays, 2, {"a": 1, "b": 1, "c": HALF, "d": HALF, "e": Ratio(3, 2)}, dict.fromkeys("spqt", 0))


class Wrong(ErrorCase):
    def assert_wrong(self, network, delays, total, loads, times):
        self.assertIs(checked(network, delays, total, loads, times), False)

    def test_totals(self):
        for total in [0, -1, 2, HALF, Ratio(0), Ratio(999, 1000)]:
            self.assert_wrong(BRIDGE, DELAYS, total, LOADS, TIMES)
        none = dict.fromkeys("abcde", 0)
        self.assert_wrong(BRIDGE, DELAYS, 0, none, {"s": 0, "p": 0, "q": 0, "t": 0})
        self.assert_wrong(BRIDGE, DELAYS, 1, none, {"s": 0, "p": 0, "q": 0, "t": 0})
        below = {name: -load for name, load in LOADS.items()}
        self.assert_wrong(BRIDGE, DELAYS, -1, below, {"s": 0, "p": 0, "q": 0, "t": 0})

    def test_keys_of_the_loads(self):
        for name in "abcde":
            fewer = {key: load for key, load in LOADS.items() if key != name}
            self.assert_wrong(BRIDGE, DELAYS, 1, fewer, TIMES)
            self.assert_wrong(BRIDGE, DELAYS, 1, {**fewer, "z": LOADS[name]}, TIMES)
        for name in ["f", "s", "aa", ""]:
            self.assert_wrong(BRIDGE, DELAYS, 1, {**LOADS, name: 0}, TIMES)
        self.assert_wrong(BRIDGE, DELAYS, 1, {}, TIMES)

    def test_keys_of_the_times(self):
        for place in "spqt":
            fewer = {key: time for key, time in TIMES.items() if key != place}
            self.assert_wrong(BRIDGE, DELAYS, 1, LOADS, fewer)
            self.assert_wrong(BRIDGE, DELAYS, 1, LOADS, {**fewer, "z": TIMES[place]})
        for place in ["r", "a", "ss", ""]:
            self.assert_wrong(BRIDGE, DELAYS, 1, LOADS, {**TIMES, place: 0})
        self.assert_wrong(BRIDGE, DELAYS, 1, LOADS, {})

    def test_a_load_below_zero(self):
        loads = {"a": 2, "b": -1, "c": 1, "d": 1, "e": 0}
        delays = dict.fromkeys("abcde", Line.straight(0))
        self.assert_wrong(BRIDGE, delays, 1, loads, dict.fromkeys("spqt", 0))
        self.assert_wrong(read("ast bst"), delays, 1, {"a": 2, "b": -1}, {"s": 0, "t": 0})

    def test_loads_that_do_not_add_up(self):
        delays = dict.fromkeys("abcdefg", Line.straight(0))
        zero = dict.fromkeys("spqt", 0)
        right = {"a": 1, "b": 1, "c": HALF, "d": HALF, "e": Ratio(3, 2)}
        self.assertIs(checked(BRIDGE, delays, 2, right, zero), True)
        for name in "abcde":
            for more in [1, Ratio(1, 10 ** 9), Ratio(-1, 3)]:
                self.assert_wrong(BRIDGE, delays, 2, {**right, name: right[name] + more}, zero)
        # At one inner place alone, and at two of them.
        self.assert_wrong(BRIDGE, delays, 2, {"a": 1, "b": 1, "c": 0, "d": 1, "e": 2}, zero)
        self.assert_wrong(BRIDGE, delays, 2, {"a": 1, "b": 1, "c": 1, "d": 1, "e": 1}, zero)
        # At the start alone.
        self.assert_wrong(BRIDGE, delays, 1, right, zero)

    def test_the_time_of_the_start(self):
        for more in [1, -1, HALF]:
            self.assert_wrong(BRIDGE, DELAYS, 1, LOADS, {place: time + more for place, time in TIMES.items()})
            self.assert_wrong(BRIDGE, DELAYS, 1, LOADS, {**TIMES, "s": more})

    def test_times_that_are_too_great_or_too_small(self):
        for place in "pqt":
            for more in [1, -1, Ratio(1, 10 ** 9), Ratio(-1, 10 ** 9)]:
                self.assert_wrong(BRIDGE, DELAYS, 1, LOADS, {**TIMES, place: TIMES[place] + more})

    def test_a_link_without_load_that_is_quicker(self):
        quick = {**DELAYS, "b": Line.straight(Ratio(999, 1000))}
        self.assert_wrong(BRIDGE, quick, 1, LOADS, TIMES)
        self.assert_wrong(BRIDGE, {**DELAYS, "d": Line.straight(0)}, 1, LOADS, TIMES)
        self.assertIs(checked(BRIDGE, {**DELAYS, "d": Line.straight(7, 3)}, 1, LOADS, TIMES), True)

    def test_a_link_with_load_that_takes_longer_than_its_place(self):
        network = read("ast bst")
        delays = {"a": UP, "b": Line.straight(1)}
        self.assertIs(checked(network, delays, 3, {"a": 1, "b": 2}, {"s": 0, "t": 1}), True)
        self.assert_wrong(network, delays, 3, {"a": 2, "b": 1}, {"s": 0, "t": 1})
        self.assert_wrong(network, delays, 3, {"a": 2, "b": 1}, {"s": 0, "t": 2})
        self.assert_wrong(network, delays, 3, {"a": HALF, "b": Ratio(5, 2)}, {"s": 0, "t": 1})
        self.assert_wrong(network, delays, 3, {"a": HALF, "b": Ratio(5, 2)}, {"s": 0, "t": HALF})


class Reckoned(ErrorCase):
    def guesses(self, rng):
        """Networks with the load of one way and the times of quickest ways, which often are standings."""
        network = some_network(rng, rng.randint(2, 5), rng.randint(4, 7))
        delays = some_delays(rng, network)
        loads = dict.fromkeys(network.names, 0)
        for name in min(every_way(network), key=lambda way: sum(line_time(delays[name], 1) for name in way)):
            loads[name] = 1
        times = {network.start: 0}
        while len(times) < len(network.places):
            for place in network.places:
                into = [name for name in network.names if network[name][1] == place]
                if place not in times and all(network[name][0] in times for name in into):
                    times[place] = min(times[network[name][0]] + line_time(delays[name], loads[name]) for name in into)
        return network, delays, loads, times

    def test_against_the_words_of_the_document(self):
        rng = random.Random(4)
        met = {True: 0, False: 0}
        for _ in range(1500):
            network, delays, loads, times = self.guesses(rng)
            place = rng.choice(network.places)
            times[place] += rng.choice([0, 0, 0, 1, -1])
            name = rng.choice(network.names)
            loads[name] += rng.choice([0, 0, 0, 0, 1])
            standing = Standing(loads, {place: Ratio(time.numerator, time.denominator) for place, time in times.items()})
            total = rng.choice([1, 1, 1, 2])
            expected = is_standing(network, delays, total, standing)
            self.assertIs(check_standing(network, delays, total, standing), expected)
            met[expected] += 1
        self.assertGreater(min(met.values()), 100)

    def test_all_ways_that_bear_load_take_the_time(self):
        rng = random.Random(5)
        for _ in range(500):
            network, delays, loads, times = self.guesses(rng)
            times = {place: Ratio(time.numerator, time.denominator) for place, time in times.items()}
            if checked(network, delays, 1, loads, times):
                took = {way: sum(line_time(delays[name], loads[name]) for name in way) for way in every_way(network)}
                self.assertEqual(min(took.values()), fraction(times[network.end]))
                self.assertIn(fraction(times[network.end]), [took[way] for way in took if all(loads[name] for name in way)])


class Calls(ErrorCase):
    def test_arguments_by_name(self):
        held = Standing(LOADS, TIMES)
        self.assertIs(check_standing(standing=held, total=1, delays=DELAYS, network=BRIDGE), True)

    def test_arguments_stay(self):
        delays, held = dict(DELAYS), Standing(LOADS, TIMES)
        check_standing(BRIDGE, delays, 1, held)
        self.assertEqual((delays, held), (DELAYS, Standing(LOADS, TIMES)))

    def test_networks_of_the_helper(self):
        for network in networks():
            way = every_way(network)[0]
            delays = {name: Line.straight(0) for name in network.names}
            loads = {name: 5 if name in way else 0 for name in network.names}
            times = dict.fromkeys(network.places, 0)
            self.assertIs(checked(network, delays, 5, loads, times), True)
            self.assertIs(checked(network, delays, 4, loads, times), False)


if __name__ == "__main__":
    unittest.main()
