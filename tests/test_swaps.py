"""Swaps: points 8, 9, 10, 51 and 52."""

import itertools
import random
import unittest

from extralink.cases import Swap, better, check_swap
from extralink.errors import NoHarm
from extralink.lines import Line
from extralink.networks import Network
from extralink.ratios import Ratio
from extralink.standings import Standing, standing
from extralink.verdicts import decide
from tests.helper import FOUR, ErrorCase, Maker, PLACES, every_way, fraction, is_standing, line_time, networks, plans
from tests.helper import read, small_networks, some_building, some_delays, some_network, some_sharing, triples

HALF = Ratio(1, 2)
UP = Line.straight(0, 1)
BRIDGE = Network.read(FOUR)
DELAYS = {"a": UP, "b": Line.straight(1), "c": Line.straight(0), "d": Line.straight(1), "e": UP}
BEFORE = Standing({"a": 1, "b": 0, "c": 1, "d": 0, "e": 1}, {"s": 0, "p": 1, "q": 1, "t": 2})
SHARING = {("a", "d"): HALF, ("b", "e"): HALF}


def swap_of(delays=DELAYS, total=1, before=BEFORE, sharing=SHARING):
    return Swap(delays, total, before, sharing)


def used_times(network, delays, sharing):
    """The times of the ways with a load above 0, reckoned apart from the program."""
    borne = {
        name: sum(fraction(load) for way, load in sharing.items() if name in way) for name in network.names
    }
    return [
        sum(line_time(delays[name], borne[name]) for name in way)
        for way, load in sharing.items() if fraction(load) > 0
    ]


class Objects(ErrorCase):
    def test_properties(self):
        swap = swap_of()
        self.assertEqual((swap.delays, swap.sharing, str(swap.total)), (DELAYS, SHARING, "1"))
        self.assertIs(swap.before == BEFORE, True)

    def test_ratios_where_integers_were_passed(self):
        swap = swap_of(total=2, sharing={("a", "d"): 2, ("b", "e"): 0, ("z",): -1})
        self.assertIs(swap.total.__class__, Ratio)
        for load in swap.sharing.values():
            self.assertIs(load.__class__, Ratio)
        texts = {way: str(load) for way, load in swap.sharing.items()}
        self.assertEqual((str(swap.total), texts), ("2", {("a", "d"): "2", ("b", "e"): "0", ("z",): "-1"}))

    def test_new_dicts_for_each_call(self):
        swap = swap_of()
        swap.delays.clear()
        swap.sharing.clear()
        swap.sharing[("a", "c", "e")] = Ratio(1)
        self.assertIsNot(swap.delays, swap.delays)
        self.assertIsNot(swap.sharing, swap.sharing)
        self.assertEqual((swap.delays, swap.sharing), (DELAYS, SHARING))

    def test_what_was_passed_may_change_later(self):
        delays, sharing = dict(DELAYS), dict(SHARING)
        swap = swap_of(delays=delays, sharing=sharing)
        delays.clear()
        sharing[("a", "d")] = Ratio(9)
        self.assertEqual((swap.delays, swap.sharing), (DELAYS, SHARING))

    def test_arguments_by_name(self):
        swap = Swap(sharing=SHARING, before=BEFORE, total=1, delays=DELAYS)
        self.assertIs(check_swap(swap=swap, network=BRIDGE), True)

    def test_not_equal_to_a_value_of_another_kind(self):
        for other in [None, (DELAYS, 1, BEFORE, SHARING), 0, ""]:
            self.assertIs(swap_of() == other, False)


class Right(ErrorCase):
    def assert_right(self, **changes):
        self.assertIs(check_swap(BRIDGE, swap_of(**changes)), True)

    def test_by_hand(self):
        self.assert_right()
        self.assert_right(total=Ratio(1))
        self.assert_right(sharing={("a", "d"): Ratio(1, 3), ("b", "e"): Ratio(2, 3)})
        self.assert_right(delays={**DELAYS, "z": UP})

    def test_a_way_with_the_load_zero_may_take_any_time(self):
        self.assert_right(sharing={**SHARING, ("a", "c", "e"): 0})
        self.assert_right(delays={**DELAYS, "c": Line([(0, 0), (1, 0)], 1)}, sharing={**SHARING, ("a", "c", "e"): Ratio(0)})
        network = Network([*triples(BRIDGE), ("f", "s", "t")], "s", "t")
        before = Standing({**BEFORE.loads, "f": 0}, BEFORE.times)
        for base in [2, 3, 10 ** 15]:
            swap = swap_of(delays={**DELAYS, "f": Line.straight(base)}, before=before, sharing={**SHARING, ("f",): 0})
            self.assertIs(check_swap(network, swap), True)

    def test_all_on_one_way(self):
        network = read("asp bsp cpt dpt")
        delays = {"a": UP, "b": Line.straight(1), "c": UP, "d": Line.straight(1)}
        before = Standing({"a": 1, "b": 0, "c": 1, "d": 0}, {"s": 0, "p": 1, "t": 2})
        sharing = {("a", "d"): HALF, ("b", "c"): HALF}
        self.assertIs(check_swap(network, Swap(delays, 1, before, sharing)), True)
        for one in [("a", "d"), ("b", "c"), ("a", "c"), ("b", "d")]:
            self.assertIs(check_swap(network, Swap(delays, 1, before, {one: 1})), False)


class Wrong(ErrorCase):
    def assert_wrong(self, **changes):
        self.assertIs(check_swap(BRIDGE, swap_of(**changes)), False)

    def test_keys_that_are_no_ways(self):
        for way in [(), ("a",), ("d",), ("a", "e"), ("d", "a"), ("a", "c"), ("z",), ("a", "c", "d"), ("a", "a", "d"), ("",)]:
            self.assert_wrong(sharing={**SHARING, way: 0})
            self.assert_wrong(sharing={("a", "d"): HALF, way: HALF})

    def test_loads_below_zero(self):
        self.assert_wrong(sharing={**SHARING, ("a", "c", "e"): -1})
        self.assert_wrong(sharing={("a", "d"): Ratio(3, 4), ("b", "e"): HALF, ("a", "c", "e"): Ratio(-1, 4)})
        self.assert_wrong(sharing={("a", "d"): 2, ("b", "e"): -1})

    def test_sums_that_are_not_the_total(self):
        for load in [Ratio(1, 3), Ratio(499999999, 10 ** 9), Ratio(2, 3), 0, Ratio(500000001, 10 ** 9)]:
            self.assert_wrong(sharing={("a", "d"): HALF, ("b", "e"): load})
        self.assert_wrong(sharing={})
        self.assert_wrong(sharing={("a", "d"): 0})

    def test_used_ways_that_take_as_long_or_longer(self):
        self.assert_wrong(sharing={("a", "c", "e"): 1})
        self.assert_wrong(sharing={("a", "d"): 1})
        self.assert_wrong(sharing={("a", "d"): HALF, ("b", "e"): Ratio(1, 4), ("a", "c", "e"): Ratio(1, 4)}, delays={
            **DELAYS, "c": Line.straight(1)})
        slow = {**DELAYS, "b": Line.straight(Ratio(3, 2))}
        self.assert_wrong(delays=slow)
        self.assert_wrong(delays={**DELAYS, "b": Line.straight(2)})
        self.assertIs(check_swap(BRIDGE, swap_of(delays={**DELAYS, "b": Line.straight(Ratio(149, 100))})), True)

    def test_the_standing(self):
        loads, times = BEFORE.loads, BEFORE.times
        for before in [
            Standing({}, {}), Standing(loads, {**times, "t": 3}), Standing({**loads, "a": 2}, times),
            Standing(loads, {**times, "s": 1}), Standing({**loads, "z": 0}, times), Standing(loads, {**times, "p": HALF}),
            Standing({"a": HALF, "b": HALF, "c": 0, "d": HALF, "e": HALF}, {"s": 0, "p": HALF, "q": 1, "t": Ratio(3, 2)}),
        ]:
            self.assert_wrong(before=before)

    def test_the_total(self):
        for total in [0, -1, 2, HALF]:
            self.assert_wrong(total=total)
            self.assert_wrong(total=total, sharing={("a", "d"): total})
            self.assert_wrong(total=total, sharing={("a", "d"): total * HALF, ("b", "e"): total * HALF})


class Better(ErrorCase):
    def assert_better(self, network):
        swap = better(network)
        self.assertIs(swap.__class__, Swap)
        self.assertIs(swap.total == Ratio(1), True)
        self.assertLessEqual(set(network.names), set(swap.delays))
        self.assertTrue(is_standing(network, swap.delays, 1, swap.before))
        self.assertEqual(str(swap.before.times[network.end]), "2")
        self.assertLessEqual(set(swap.sharing), set(every_way(network)))
        loads = [fraction(load) for load in swap.sharing.values()]
        self.assertGreaterEqual(min(loads), 0)
        self.assertEqual(sum(loads), 1)
        self.assertEqual(set(used_times(network, swap.delays, swap.sharing)), {fraction(Ratio(3, 2))})
        self.assertIs(check_swap(network, swap), True)

    def assert_as_the_kind_says(self, network):
        kind = decide(network).kind
        if kind == "tail":
            self.refused(NoHarm("tail"), better, network)
        else:
            self.assert_better(network)
        return kind

    def test_networks_of_the_helper(self):
        for network in networks():
            self.assert_as_the_kind_says(network)

    def test_woven_by_hand(self):
        for rows in [
            "asp bsp cpt dpt", "asp bsp cpq dqt eqt", "ast bsp csp dpt ept", "asp bsp cpt dpq epq fqt",
            "asp bpq cpq dqr eqr frt", "asp bpq csq dqr ert fqt", "asp bsp csp dpt ept fpt gst hst",
            "asp bpq cpq dqr eru fru guv hvt ist", "asu bup csp dpq eqr fpr grv hvt irt",
        ]:
            self.assertEqual(self.assert_as_the_kind_says(read(rows)), "woven")

    def test_all_small_networks(self):
        kinds = {"tail": 0, "woven": 0, "bridged": 0}
        for many, most in [(2, 4), (3, 6), (4, 6)]:
            for network in small_networks(many, most, parallel=True):
                kinds[self.assert_as_the_kind_says(network)] += 1
        self.assertGreater(min(kinds.values()), 2)

    def test_forms_of_buildings(self):
        for plan in plans(6):
            self.assert_as_the_kind_says(Maker("dbfcae", PLACES).build(plan).network())

    def test_large_networks(self):
        rng = random.Random(23)
        for _ in range(150):
            self.assert_as_the_kind_says(some_network(rng, rng.randint(3, 8), rng.randint(8, 10)))
            self.assert_as_the_kind_says(some_building(rng).network())

    def test_no_swap_of_tails(self):
        rng = random.Random(24)
        met = 0
        while met < 200:
            building = some_building(rng)
            if building.tailed:
                network = building.network()
                delays = some_delays(rng, network)
                swap = Swap(delays, 2, standing(building, delays, 2), some_sharing(rng, network, 2))
                self.assertIs(check_swap(network, swap), False)
                met += 1

    def test_equal_arguments(self):
        for network in [read("asp bsp cpt dpt est"), read("asp bsq cpq dpt eqt")]:
            first = better(network)
            for order in itertools.permutations(triples(network)):
                swap = better(network=Network(order, "s", "t"))
                self.assertEqual((swap.delays, swap.total, swap.sharing), (first.delays, first.total, first.sharing))
                self.assertEqual(swap.before, first.before)


if __name__ == "__main__":
    unittest.main()
