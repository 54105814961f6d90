"""Closings: points 9 and 57."""

import itertools
import random
import unittest

from extralink.buildings import building_of
from extralink.closings import least_closings
from extralink.errors import NoWay
from extralink.networks import Network
from tests.helper import FOUR, ErrorCase, every_way, is_building, networks, read, reduces, small_networks
from tests.helper import some_building, some_network, triples


def searched(network):
    """All least closings, by a search over all sets of links that knows nothing of the program."""
    ways = every_way(network)
    ends = {name: (tail, head) for name, tail, head in triples(network)}
    found = []
    for many in range(len(network) + 1):
        for names in itertools.combinations(network.names, many):
            if any(set(closing) <= set(names) for closing in found):
                continue
            left = {name for way in ways if not set(way) & set(names) for name in way}
            if left and reduces([ends[name] for name in left], network.start, network.end):
                found.append(names)
    return found


class Closings(ErrorCase):
    def assert_closings(self, network):
        found = least_closings(network)
        self.assertIs(found.__class__, list)
        for names in found:
            self.assertIs(names.__class__, tuple)
        self.assertEqual(found, searched(network), str(network))
        self.assertEqual(found == [()], is_building(network))
        return found

    def test_buildings(self):
        rng = random.Random(29)
        for _ in range(60):
            self.assertEqual(least_closings(some_building(rng).network()), [()])

    def test_by_hand(self):
        self.assertEqual(least_closings(read("asp bsq cpq dpt eqt fst")), [("a",), ("b",), ("c",), ("d",), ("e",)])
        two = [("a",), ("b",), ("d",), ("e",), ("c", "f")]
        self.assertEqual(least_closings(read("asp bsq cpq fpq dpt eqt")), two)
        self.assertEqual(least_closings(read("asp zsp bsq cpq dpt eqt")), [("b",), ("c",), ("d",), ("e",), ("a", "z")])

    def test_the_order(self):
        rng = random.Random(33)
        for _ in range(50):
            found = least_closings(some_network(rng, 6, 9))
            self.assertEqual(found, sorted(found, key=lambda names: (len(names), names)))

    def test_those_of_the_helper(self):
        for network in networks():
            self.assert_closings(network)

    def test_small_networks(self):
        for network in [*small_networks(4, 6, parallel=True), *small_networks(5, 9)]:
            self.assert_closings(network)

    def test_networks_of_ten_links(self):
        rng = random.Random(30)
        sizes = set()
        met = 0
        while met < 60:
            network = some_network(rng, rng.randint(4, 8), 10)
            if not is_building(network):
                sizes.update(map(len, self.assert_closings(network)))
                met += 1
        self.assertLessEqual({1, 2, 3}, sizes)

    def test_every_link_between_five_places(self):
        every = [(tail + head, tail, head) for tail, head in itertools.combinations("spqrt", 2)]
        self.assert_closings(Network(every, "s", "t"))

    def test_what_is_left_when_more_is_closed(self):
        rng = random.Random(31)
        for _ in range(100):
            network = some_network(rng, 6, 9)
            names = rng.choice(least_closings(network))
            more = [*names, *rng.sample(network.names, 2)]
            self.assertIsNotNone(building_of(network.without(names)))
            try:
                left = network.without(more)
            except NoWay:
                continue
            self.assertIsNotNone(building_of(left))

    def test_new_for_each_call(self):
        network = Network.read(FOUR)
        least_closings(network).clear()
        self.assertEqual(len(least_closings(network=network)), 5)
        self.assertIsNot(least_closings(network), least_closings(network))
        self.assertEqual(str(network), FOUR)

    def test_links_in_any_order(self):
        network = read("asp zsp bsq cpq dpt eqt")
        for order in itertools.islice(itertools.permutations(triples(network)), 0, None, 11):
            self.assertEqual(least_closings(Network(order, "s", "t")), least_closings(network))


class Examples(ErrorCase):
    def test_four_places(self):
        network = Network.read("s > t\na: s > p\nb: s > q\nc: p > q\nd: p > t\ne: q > t")
        self.assertEqual(least_closings(network), [("a",), ("b",), ("c",), ("d",), ("e",)])


if __name__ == "__main__":
    unittest.main()
