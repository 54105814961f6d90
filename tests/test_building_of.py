"""The building of a network: points 7 and 35, and the examples for buildings."""

import itertools
import unittest

from extralink.buildings import Building, building_of, fork
from extralink.networks import Network
from tests.helper import FOUR, ErrorCase, Maker, PLACES, networks, plans, small_networks, triples


class Buildings(ErrorCase):
    def assert_found(self, building):
        network = building.network()
        found = building_of(network)
        self.assertIs(found.__class__, Building)
        self.assertIs(found == building, True)
        self.assertEqual(str(found), str(building))
        self.assertEqual(found.network(), network)
        self.assertEqual((found.start, found.end), (network.start, network.end))

    def test_links(self):
        self.assert_found(Building.link("a", "s", "t"))
        self.assert_found(Building.link("link9", "t", "s"))

    def test_chains(self):
        for many in range(2, 8):
            for names in ["abcdefg", "gfedcba", "dbgaecf"]:
                self.assert_found(Maker(names, PLACES).build(("chain", *["link"] * many)))

    def test_forks(self):
        for many in range(2, 11):
            self.assert_found(Maker("jihgfedcba", PLACES).build(("fork", *["link"] * many)))

    def test_all_forms_of_up_to_five_links(self):
        met = 0
        for many in range(1, 6):
            for plan in plans(many):
                for names in ["abcde", "edcba", "cadbe"]:
                    for places in [PLACES, PLACES[::-1]]:
                        self.assert_found(Maker(names, places).build(plan))
                        met += 1
        self.assertGreater(met, 500)

    def test_forms_of_seven_links(self):
        for plan in plans(7)[::23]:
            self.assert_found(Maker("gcafbed", PLACES).build(plan))

    def test_large_ones(self):
        two = ("fork", "link", "link")
        step = ("fork", "link", ("chain", "link", "link"))
        wide = ("chain", step, step, ("fork", "link", ("chain", "link", two)))
        self.assert_found(Maker("jihgfedcba", PLACES).build(wide))
        self.assert_found(Maker("abcdefghij", PLACES).build(("chain", two, two, two, two, two)))
        self.assert_found(Maker("acegibdfhj", PLACES).build(("fork", ("chain", *["link"] * 5), ("chain", *["link"] * 3), two)))
        deep = "link"
        for _ in range(4):
            deep = ("fork", "link", ("chain", "link", deep))
        self.assert_found(Maker("ihgfedcba", PLACES).build(deep))

    def test_links_in_any_order(self):
        building = Maker("edcba", PLACES).build(("chain", ("fork", "link", ("chain", "link", "link")), "link", "link"))
        for order in itertools.permutations(triples(building.network())):
            self.assertIs(building_of(Network(order, "s", "t")) == building, True)

    def test_parts_that_are_written_out(self):
        network = Network.read("s > t\na: p > t\nb: s > p\nc: s > p\nd: s > q\ne: q > t")
        self.assertEqual(str(building_of(network)), "(b | c) + a | d + e")
        network = Network.read("s > t\ne: s > t\nd: s > p\nc: p > t\nb: p > q\na: q > t")
        self.assertEqual(str(building_of(network)), "d + (b + a | c) | e")

    def test_argument_by_name(self):
        self.assertEqual(building_of(network=Network([("a", "s", "t")], "s", "t")), Building.link("a", "s", "t"))

    def test_the_network_stays(self):
        network = Network.read("s > t\ne: s > t\nd: s > p\nc: p > t")
        building_of(network)
        self.assertEqual(str(network), "s > t\nc: p > t\nd: s > p\ne: s > t")


class Others(ErrorCase):
    def assert_none(self, text):
        self.assertIsNone(building_of(Network.read(text)))

    def test_four_places(self):
        self.assert_none(FOUR)
        self.assert_none(FOUR + "\nf: s > t")
        self.assert_none(FOUR + "\nf: s > p\ng: p > q\nh: q > t")

    def test_within_a_building(self):
        self.assert_none("y > z\nv: y > s\nw: t > z\na: s > p\nb: s > q\nc: p > q\nd: p > t\ne: q > t")
        self.assert_none("y > t\nv: y > s\nw: y > s\na: s > p\nb: s > q\nc: p > q\nd: p > t\ne: q > t\nf: y > t")

    def test_with_longer_parts(self):
        for name, tail, head in triples(Network.read(FOUR)):
            row = f"{name}: {tail} > {head}"
            longer = FOUR.replace(row, f"{name}: {tail} > u\nx: u > v\ny: v > w\nz: w > {head}")
            self.assert_none(longer)
            wider = FOUR.replace(row, f"{name}: {tail} > u\nw: {tail} > u\nx: u > {head}\ny: {tail} > {head}")
            self.assert_none(wider)

    def test_larger_ones(self):
        self.assert_none("s > t\na: s > p\nb: s > q\nc: p > q\nd: p > r\ne: q > u\nf: r > u\ng: r > t\nh: u > t")
        self.assert_none("s > t\na: s > p\nb: s > q\nc: s > r\nd: p > u\ne: q > u\nf: q > v\ng: r > v\nh: u > t\ni: v > t")
        self.assert_none("s > t\na: s > p\nb: p > q\nc: q > r\nd: r > u\ne: u > v\nf: v > w\ng: w > t\nh: p > u\ni: r > w")
        every = [(tail + head, tail, head) for tail, head in itertools.combinations(["s", "p", "q", "r", "t"], 2)]
        self.assertIsNone(building_of(Network(every, "s", "t")))

    def test_those_of_the_helper(self):
        found = [building_of(network) is not None for network in networks()]
        self.assertEqual(found, [True, True, True, True, True, False, True, False, False, False])


class SmallNetworks(ErrorCase):
    def test_exactly_the_networks_of_buildings(self):
        every = set()
        for many in range(1, 6):
            for plan in plans(many):
                for places in itertools.permutations("pqr"):
                    network = Maker("abcde", [*places, "u"]).build(plan).network()
                    every.add(frozenset((tail, head) for _, tail, head in triples(network)))
        for many in range(2, 6):
            for network in small_networks(many, 5):
                known = frozenset((tail, head) for _, tail, head in triples(network)) in every
                found = building_of(network)
                self.assertIs(found is not None, known)
                if known:
                    self.assertEqual(found.network(), network)


class Examples(ErrorCase):
    def test_a_building(self):
        one = Building.link("a", "s", "p")
        two = fork(Building.link("d", "p", "t"), Building.link("b", "p", "q") + Building.link("c", "q", "t"))
        both = one + two
        told = [str(both), both.places, both.tailed, building_of(both.network()) == both]
        self.assertEqual(told, ["a + (b + c | d)", ("s", "p", "q", "t"), True, True])

    def test_no_building(self):
        network = Network.read("s > t\na: s > p\nb: p > t\nc: s > q\nd: q > t\ne: p > q")
        self.assertIs(building_of(network) is None, True)


if __name__ == "__main__":
    unittest.main()
