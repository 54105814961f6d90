"""Places that lead to places, ways, and networks with fewer or more links: points 4, 19 to 22."""

import itertools
import unittest

from extralink.errors import BadCount, BadName, DuplicateName, HasRound, NoWay, UnknownName, UselessLink
from extralink.networks import Network
from tests.helper import FOUR, WRONG_NAMES, ErrorCase, networks, small_networks, triples


def led(links):
    """The pairs of places the first of which leads to the second, by repeated joining of pairs."""
    pairs = {(tail, head) for _, tail, head in links}
    while True:
        more = {(one, four) for one, two in pairs for three, four in pairs if two == three} | pairs
        if more == pairs:
            return pairs
        pairs = more


def ways_of(links, start, end):
    """All ways, in ascending order, from all arrangements that are tried out link by link."""
    found, open_walks = [], [((name,), tail, head) for name, tail, head in links if tail == start]
    while open_walks:
        names, _, place = open_walks.pop(0)
        if place == end:
            found.append(names)
        open_walks += [((*names, name), tail, head) for name, tail, head in links if tail == place]
    return sorted(found)


class Leads(ErrorCase):
    def test_every_two_places(self):
        for network in networks():
            pairs = led(triples(network))
            for first, second in itertools.product(network.places, repeat=2):
                self.assertIs(network.leads(first, second), (first, second) in pairs)

    def test_small_networks(self):
        for network in small_networks(4, 6):
            pairs = led(triples(network))
            for first, second in itertools.product(network.places, repeat=2):
                self.assertIs(network.leads(first, second), (first, second) in pairs)

    def test_by_hand(self):
        network = Network.read(FOUR)
        self.assertIs(network.leads("s", "t"), True)
        self.assertIs(network.leads("p", "q"), True)
        self.assertIs(network.leads("q", "p"), False)
        self.assertIs(network.leads("t", "s"), False)
        side = Network.read("s > t\na: s > p\nb: p > t\nc: s > q\nd: q > t")
        self.assertIs(side.leads("p", "q"), False)
        self.assertIs(side.leads("q", "p"), False)

    def test_a_place_and_itself(self):
        for network in networks():
            for place in network.places:
                self.assertIs(network.leads(place, place), False)

    def test_unknown_places(self):
        network = Network.read("s > t\na: s > p\nb: p > t")
        for wrong in ["a", "b", "q", "s2"] + WRONG_NAMES:
            self.refused(UnknownName(wrong), network.leads, wrong, "t")
            self.refused(UnknownName(wrong), network.leads, "s", wrong)
            self.refused(UnknownName(wrong), network.leads, wrong, "b")
            self.refused(UnknownName(wrong), network.leads, wrong, wrong)

    def test_arguments_by_name(self):
        network = Network.read(FOUR)
        self.assertIs(network.leads(second="q", first="p"), True)
        self.refused(UnknownName("x"), network.leads, second="x", first="p")


class Ways(ErrorCase):
    def test_all_ways_in_order(self):
        for network in networks():
            expected = ways_of(triples(network), network.start, network.end)
            self.assertEqual(list(network.ways()), expected)

    def test_small_networks(self):
        for network in small_networks(4, 5, parallel=True):
            self.assertEqual(list(network.ways()), ways_of(triples(network), "s", "t"))

    def test_by_hand(self):
        self.assertEqual(list(Network([("a", "s", "t")], "s", "t").ways()), [("a",)])
        network = Network([("b", "s", "t"), ("a10", "s", "t"), ("a2", "s", "p"), ("z", "p", "t"), ("c", "p", "t")], "s", "t")
        self.assertEqual(list(network.ways()), [("a10",), ("a2", "c"), ("a2", "z"), ("b",)])

    def test_order_against_the_order_of_the_places(self):
        links = [("d", "s", "a"), ("c", "s", "b"), ("b", "a", "t"), ("a", "b", "t"), ("e", "a", "b")]
        ways = list(Network(links, "s", "t").ways())
        self.assertEqual(ways, [("c", "a"), ("d", "b"), ("d", "e", "a")])

    def test_many_ways(self):
        links = [(place + str(at), place, following) for place, following in ["sp", "pq", "qt"] for at in range(3)]
        ways = list(Network(links, "s", "t").ways())
        expected = itertools.product(["s0", "s1", "s2"], ["p0", "p1", "p2"], ["q0", "q1", "q2"])
        self.assertEqual(ways, list(expected))

    def test_the_links_in_any_order_give_the_same(self):
        for order in itertools.permutations(triples(Network.read(FOUR))):
            ways = list(Network(order, "s", "t").ways())
            self.assertEqual(ways, [("a", "c", "e"), ("a", "d"), ("b", "e")])

    def test_kinds(self):
        for way in Network.read(FOUR).ways():
            self.assertIs(way.__class__, tuple)

    def test_twice(self):
        for network in networks():
            self.assertEqual(list(network.ways()), list(network.ways()))

    def test_one_walk_within_another(self):
        network = Network.read(FOUR)
        ways = list(network.ways())
        met = [(outer, inner) for outer in network.ways() for inner in network.ways()]
        self.assertEqual(met, list(itertools.product(ways, ways)))

    def test_two_walks_in_turn(self):
        network = Network.read(FOUR)
        self.assertEqual(list(zip(network.ways(), network.ways())), [(way, way) for way in network.ways()])

    def test_after_a_walk_that_was_broken_off(self):
        network = Network.read(FOUR)
        broken = network.ways()
        self.assertEqual(next(broken), ("a", "c", "e"))
        self.assertEqual(list(network.ways()), [("a", "c", "e"), ("a", "d"), ("b", "e")])
        for way in network.ways():
            break
        self.assertEqual(way, ("a", "c", "e"))
        self.assertEqual(list(broken), [("a", "d"), ("b", "e")])
        self.assertEqual(list(network.ways()), [("a", "c", "e"), ("a", "d"), ("b", "e")])


class Without(ErrorCase):
    def assert_left(self, network, names):
        closed = [link for link in triples(network) if link[0] not in names]
        ways = ways_of(closed, network.start, network.end)
        if not ways:
            self.refused(NoWay(), network.without, names)
            return
        left = network.without(names)
        on_ways = {name for way in ways for name in way}
        self.assertEqual(left, Network([link for link in closed if link[0] in on_ways], network.start, network.end))
        self.assertEqual(list(left.ways()), ways)

    def test_all_choices_of_names(self):
        for network in networks()[:7]:
            before = str(network)
            for many in range(len(network) + 1):
                for names in itertools.combinations(network.names, many):
                    self.assert_left(network, names)
                    self.assert_left(network, list(names)[::-1])
            self.assertEqual(str(network), before)

    def test_no_names(self):
        for network in networks():
            for none in [[], ()]:
                self.assertEqual(network.without(none), network)

    def test_one_and_several(self):
        network = Network.read(FOUR)
        self.assertEqual(str(network.without(["c"])), "s > t\na: s > p\nb: s > q\nd: p > t\ne: q > t")
        self.assertEqual(str(network.without(["c", "b"])), "s > t\na: s > p\nd: p > t")

    def test_what_is_left_on_no_way(self):
        network = Network.read(FOUR)
        self.assertEqual(str(network.without(["e"])), "s > t\na: s > p\nd: p > t")
        self.assertEqual(str(network.without(["a"])), "s > t\nb: s > q\ne: q > t")
        self.assertEqual(network.without(["d"]).places, ("s", "p", "q", "t"))

    def test_the_same_name_several_times(self):
        network = Network.read(FOUR)
        self.assertEqual(network.without(["c", "c"]), network.without(["c"]))
        self.assertEqual(network.without(("b", "c", "b", "c", "b")), network.without(["b", "c"]))

    def test_strange_names(self):
        network = Network.read(FOUR)
        for wrong in ["f", "s", "p", "aa"] + WRONG_NAMES:
            self.refused(UnknownName(wrong), network.without, [wrong])
            self.refused(UnknownName(wrong), network.without, ["a", wrong, "y"])
            self.refused(UnknownName(wrong), network.without, ["a", "b", "c", "d", "e", wrong])

    def test_the_first_strange_name_counts(self):
        self.refused(UnknownName("y"), Network.read(FOUR).without, ["a", "y", "x"])

    def test_no_way_left(self):
        for network in networks():
            self.refused(NoWay(), network.without, network.names)
            self.refused(NoWay(), network.without, list(network.names))
        self.refused(NoWay(), Network.read(FOUR).without, ["a", "b"])
        self.refused(NoWay(), Network.read(FOUR).without, ["a", "e"])

    def test_the_names_stay(self):
        names = ["e", "c", "e"]
        Network.read(FOUR).without(names)
        self.assertEqual(names, ["e", "c", "e"])

    def test_argument_by_name(self):
        self.assertEqual(Network.read(FOUR).without(names=["c"]).names, ("a", "b", "d", "e"))


class Joined(ErrorCase):
    def test_one_link_more(self):
        network = Network([("c", "p", "t"), ("b", "s", "p")], "s", "t")
        more = network.joined("a", "s", "t")
        self.assertEqual(str(more), "s > t\na: s > t\nb: s > p\nc: p > t")
        self.assertEqual(str(network), "s > t\nb: s > p\nc: p > t")
        self.assertEqual(network.joined(head="p", tail="s", name="a"), network.joined("a", "s", "p"))

    def test_every_pair_of_places(self):
        for network in networks()[:7]:
            pairs = led(triples(network))
            for tail, head in itertools.product(network.places, repeat=2):
                if tail == head or (head, tail) in pairs:
                    self.assertRaises(HasRound, network.joined, "new", tail, head)
                else:
                    expected = Network([*triples(network), ("new", tail, head)], network.start, network.end)
                    self.assertEqual(network.joined("new", tail, head), expected)

    def test_names(self):
        network = Network.read(FOUR)
        for wrong in WRONG_NAMES:
            self.refused(BadName(wrong), network.joined, wrong, "s", "t")
            self.refused(BadName(wrong), network.joined, "f", wrong, "t")
            self.refused(BadName(wrong), network.joined, "f", "s", wrong)
        self.refused(BadName("F"), network.joined, "F", "S", "T")
        self.refused(BadName("S"), network.joined, "f", "S", "T")
        self.refused(DuplicateName("c"), network.joined, "c", "s", "t")
        self.refused(DuplicateName("c"), network.joined, "c", "S", "T")

    def test_rounds(self):
        network = Network([("b", "s", "p"), ("c", "p", "t"), ("d", "s", "t")], "s", "t")
        self.refused(HasRound("a"), network.joined, "a", "p", "p")
        self.refused(HasRound("e"), network.joined, "e", "p", "p")
        self.refused(HasRound("a"), network.joined, "a", "t", "p")
        self.refused(HasRound("c"), network.joined, "e", "t", "p")
        self.refused(HasRound("b"), network.joined, "e", "t", "s")

    def test_useless_links(self):
        network = Network.read(FOUR)
        self.refused(UselessLink("f"), network.joined, "f", "s", "u")
        self.refused(UselessLink("f"), network.joined, "f", "u", "t")
        self.refused(UselessLink("f"), network.joined, "f", "u", "v")

    def test_too_many_links(self):
        network = networks()[-1]
        self.assertEqual(len(network), 10)
        self.refused(BadCount(11), network.joined, "new", "s", "t")
        self.refused(BadCount(11), network.joined, "A", "B", "C")
        nine = network.without(["h"])
        self.assertEqual(nine.joined("h", "s", "x"), network)

    def test_too_many_places(self):
        # A single link cannot add a place without being useless, which comes first.
        network = networks()[-1].without(["h"])
        self.assertEqual(len(network.places), 8)
        self.refused(UselessLink("h"), network.joined, "h", "s", "extra")


class Example(ErrorCase):
    def test_as_it_stands(self):
        network = Network.read("s > t\na: s > p\nb: p > t\nc: s > q\nd: q > t\ne: p > q")
        told = [list(network.ways()), network.places, network["e"], network.without(["b"]).names]
        ways = [("a", "b"), ("a", "e", "d"), ("c", "d")]
        self.assertEqual(told, [ways, ("s", "p", "q", "t"), ("p", "q"), ("a", "c", "d", "e")])

    def test_useless_link(self):
        self.refused(UselessLink("b"), Network, [("a", "s", "t"), ("b", "s", "p")], "s", "t")


if __name__ == "__main__":
    unittest.main()
