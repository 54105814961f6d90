"""The constructor of networks and what networks tell: points 3, 4, 9, 10, 16 to 18."""

import itertools
import unittest

from extralink.buildings import Building
from extralink.errors import BadCount, BadName, DuplicateName, HasRound, UnknownName, UselessLink
from extralink.lines import Line
from extralink.networks import Network
from extralink.ratios import Ratio
from tests.helper import TEXTS, WRONG_NAMES, ErrorCase, networks, triples


def row(places, names="abcdefghijklmnop"):
    """Links that lead from each place to the next one."""
    return [(name, tail, head) for name, tail, head in zip(names, places, places[1:])]


def side(many):
    """So many links from s to t."""
    return [("l" + str(at), "s", "t") for at in range(many)]


class Counts(ErrorCase):
    def test_no_link(self):
        for none in [[], ()]:
            self.refused(BadCount(0), Network, none, "s", "t")

    def test_too_many_links(self):
        for many in [11, 12, 20]:
            self.refused(BadCount(many), Network, side(many), "s", "t")
            self.refused(BadCount(many), Network, tuple(side(many)), "s", "t")

    def test_one_to_ten_links(self):
        for many in range(1, 11):
            self.assertEqual(len(Network(side(many), "s", "t")), many)

    def test_the_count_of_links_comes_first(self):
        self.refused(BadCount(0), Network, [], "S", "")
        self.refused(BadCount(0), Network, [], "s", "s")
        self.refused(BadCount(11), Network, [("A", "a", "a")] * 11, "S", "S")

    def test_too_many_places(self):
        for many in [9, 10, 11]:
            places = "sijklmnopqr"[:many - 1] + "t"
            self.refused(BadCount(many), Network, row(places), "s", "t")
            self.refused(BadCount(many), Network, row(places)[::-1], "s", "t")

    def test_two_to_eight_places(self):
        for many in range(2, 9):
            places = "sijklmno"[:many - 1] + "t"
            self.assertEqual(Network(row(places), "s", "t").places, tuple(places))

    def test_ten_links_and_eight_places(self):
        network = Network(row("sabcdeft") + [("x", "s", "f"), ("y", "s", "t"), ("z", "a", "b")], "s", "t")
        self.assertEqual((len(network), len(network.places)), (10, 8))


class Ends(ErrorCase):
    def test_bad_start(self):
        for wrong in WRONG_NAMES:
            self.refused(BadName(wrong), Network, side(1), wrong, "t")

    def test_bad_end(self):
        for wrong in WRONG_NAMES:
            self.refused(BadName(wrong), Network, side(1), "s", wrong)

    def test_start_before_end(self):
        self.refused(BadName("S"), Network, side(1), "S", "T")
        self.refused(BadName("S"), Network, side(1), "S", "S")

    def test_end_that_equals_the_start(self):
        for place in ["s", "t", "x", "a1"]:
            self.refused(DuplicateName(place), Network, side(1), place, place)

    def test_ends_before_links(self):
        wrong = [("A", "B", "C"), ("a", "p", "p")]
        self.refused(BadName("S"), Network, wrong, "S", "t")
        self.refused(BadName("T"), Network, wrong, "s", "T")
        self.refused(DuplicateName("s"), Network, wrong, "s", "s")


class LinkNames(ErrorCase):
    def test_bad_names(self):
        for wrong in WRONG_NAMES:
            self.refused(BadName(wrong), Network, [(wrong, "s", "t")], "s", "t")
            self.refused(BadName(wrong), Network, [("a", wrong, "t")], "s", "t")
            self.refused(BadName(wrong), Network, [("a", "s", wrong)], "s", "t")
            self.refused(BadName(wrong), Network, side(9) + [(wrong, "s", "t")], "s", "t")

    def test_longest_names(self):
        network = Network([("abcdef", "start1", "end999")], "start1", "end999")
        self.assertEqual((network.names, network.places), (("abcdef",), ("start1", "end999")))

    def test_double_name(self):
        self.refused(DuplicateName("a"), Network, [("a", "s", "t"), ("a", "s", "t")], "s", "t")
        self.refused(DuplicateName("b"), Network, [("b", "s", "p"), ("a", "s", "t"), ("b", "p", "t")], "s", "t")

    def test_the_first_double_name_in_the_list_counts(self):
        links = [("b", "s", "t"), ("a", "s", "t"), ("b", "s", "t"), ("a", "s", "t")]
        self.refused(DuplicateName("b"), Network, links, "s", "t")

    def test_name_then_tail_then_head(self):
        self.refused(BadName("A"), Network, [("A", "B", "C")], "s", "t")
        self.refused(BadName("B"), Network, [("a", "B", "C")], "s", "t")
        self.refused(BadName("C"), Network, [("a", "b", "C")], "s", "t")

    def test_double_name_before_tail_and_head(self):
        self.refused(DuplicateName("a"), Network, [("a", "s", "t"), ("a", "B", "C")], "s", "t")

    def test_link_after_link(self):
        self.refused(DuplicateName("a"), Network, [("a", "s", "t"), ("a", "s", "t"), ("B", "s", "t")], "s", "t")
        self.refused(BadName("B"), Network, [("a", "s", "t"), ("B", "s", "t"), ("a", "s", "t")], "s", "t")
        self.refused(BadName("T"), Network, [("b", "s", "T"), ("A", "s", "t")], "s", "t")
        self.refused(BadName("S"), Network, [("b", "S", "t"), ("a", "s", "T")], "s", "t")

    def test_names_before_rounds_and_useless_links(self):
        self.refused(BadName("C"), Network, [("a", "p", "p"), ("b", "s", "q"), ("C", "s", "t")], "s", "t")
        self.refused(DuplicateName("a"), Network, [("a", "p", "p"), ("a", "s", "t")], "s", "t")

    def test_a_link_and_a_place_may_have_one_name(self):
        network = Network([("s", "s", "t"), ("t", "s", "p"), ("p", "p", "t")], "s", "t")
        self.assertEqual(network["p"], ("p", "t"))
        self.assertEqual(network.names, ("p", "s", "t"))


class Rounds(ErrorCase):
    def test_link_that_leads_to_its_tail(self):
        for place in ["s", "t", "p", "q"]:
            links = [("a", "s", "p"), ("b", "p", "t"), ("c", place, place)]
            self.refused(HasRound("c"), Network, links, "s", "t")

    def test_rounds_of_several_links(self):
        links = [("a", "s", "p"), ("b", "p", "q"), ("c", "q", "p"), ("d", "q", "t")]
        self.refused(HasRound("b"), Network, links, "s", "t")
        links = [("a", "s", "p"), ("b", "p", "t"), ("c", "q", "r"), ("d", "r", "u"), ("e", "u", "q")]
        self.refused(HasRound("c"), Network, links, "s", "t")

    def test_rounds_over_the_start_and_the_end(self):
        self.refused(HasRound("a"), Network, [("a", "s", "p"), ("b", "p", "t"), ("c", "t", "s")], "s", "t")
        self.refused(HasRound("a"), Network, [("a", "s", "p"), ("b", "p", "s"), ("c", "p", "t")], "s", "t")
        self.refused(HasRound("b"), Network, [("a", "s", "p"), ("b", "p", "t"), ("c", "t", "p")], "s", "t")

    def test_the_least_name_counts_and_not_the_place_in_the_list(self):
        links = [("e", "s", "p"), ("d", "p", "q"), ("c", "q", "r"), ("b", "r", "p"), ("a", "r", "t")]
        for order in itertools.permutations(links):
            self.refused(HasRound("b"), Network, order, "s", "t")

    def test_a_link_that_only_leads_into_a_round_is_not_in_it(self):
        links = [("a", "s", "p"), ("b", "s", "t"), ("c", "p", "p"), ("d", "p", "t")]
        self.refused(HasRound("c"), Network, links, "s", "t")

    def test_a_round_of_two_before_one_link_alone(self):
        links = [("x", "s", "s"), ("b", "p", "q"), ("c", "q", "p"), ("d", "s", "t")]
        self.refused(HasRound("b"), Network, links, "s", "t")

    def test_round_before_useless_link(self):
        links = [("a", "s", "u"), ("b", "s", "t"), ("c", "p", "q"), ("d", "q", "p")]
        self.refused(HasRound("c"), Network, links, "s", "t")
        self.refused(HasRound("z"), Network, [("a", "p", "q"), ("z", "u", "u")], "s", "t")

    def test_round_before_the_count_of_places(self):
        self.refused(HasRound("z"), Network, row("sijklmnot") + [("z", "t", "t")], "s", "t")


class Useless(ErrorCase):
    def test_nothing_leads_to_it(self):
        self.refused(UselessLink("b"), Network, [("a", "s", "t"), ("b", "p", "t")], "s", "t")

    def test_it_leads_to_nothing(self):
        self.refused(UselessLink("b"), Network, [("a", "s", "t"), ("b", "s", "p")], "s", "t")

    def test_neither(self):
        self.refused(UselessLink("b"), Network, [("a", "s", "t"), ("b", "p", "q")], "s", "t")

    def test_into_the_start_and_out_of_the_end(self):
        self.refused(UselessLink("b"), Network, [("a", "s", "t"), ("b", "p", "s")], "s", "t")
        self.refused(UselessLink("b"), Network, [("a", "s", "t"), ("b", "t", "p")], "s", "t")

    def test_no_way_at_all(self):
        self.refused(UselessLink("a"), Network, [("a", "s", "p"), ("b", "q", "t")], "s", "t")
        self.refused(UselessLink("a"), Network, [("a", "t", "s")], "s", "t")
        self.refused(UselessLink("a"), Network, [("a", "s", "t")], "s", "u")
        self.refused(UselessLink("a"), Network, [("a", "s", "t")], "u", "t")
        self.refused(UselessLink("a"), Network, [("a", "s", "t")], "u", "v")

    def test_a_longer_dead_end(self):
        links = [("e", "s", "t"), ("d", "s", "p"), ("c", "p", "q"), ("b", "q", "r")]
        self.refused(UselessLink("b"), Network, links, "s", "t")
        links = [("a", "s", "t"), ("b", "p", "q"), ("c", "q", "r"), ("d", "r", "t")]
        self.refused(UselessLink("b"), Network, links, "s", "t")

    def test_the_least_name_counts_and_not_the_place_in_the_list(self):
        links = [("d", "s", "t"), ("c", "s", "p"), ("b", "s", "q"), ("a", "s", "t")]
        for order in itertools.permutations(links):
            self.refused(UselessLink("b"), Network, order, "s", "t")

    def test_useless_link_before_the_count_of_places(self):
        self.refused(UselessLink("z"), Network, row("sijklmnot") + [("z", "i", "u")], "s", "t")


class ManyFaults(ErrorCase):
    def test_the_first_fault_that_is_due_is_raised(self):
        links = [("z", "p", "P"), ("z", "Q", "q"), ("A", "p", "q"), ("y", "u", "u"), ("x", "s", "v"), *row("sijklmn")]
        self.refused(BadCount(11), Network, links, "S", "T")
        del links[10]
        self.refused(BadName("S"), Network, links, "S", "T")
        self.refused(BadName("T"), Network, links, "s", "T")
        self.refused(DuplicateName("s"), Network, links, "s", "s")
        self.refused(BadName("P"), Network, links, "s", "t")
        links[0] = ("z", "p", "q")
        self.refused(DuplicateName("z"), Network, links, "s", "t")
        links[1] = ("w", "Q", "q")
        self.refused(BadName("Q"), Network, links, "s", "t")
        links[1] = ("w", "q", "q")
        self.refused(BadName("A"), Network, links, "s", "t")
        links[2] = ("b1", "p", "q")
        self.refused(HasRound("w"), Network, links, "s", "t")
        links[1] = ("w", "q", "r")
        self.refused(HasRound("y"), Network, links, "s", "t")
        links[3] = ("y", "m", "n")
        self.refused(UselessLink("a"), Network, links, "s", "t")
        links[:5] = [("v", "n", "o"), ("w", "o", "t"), ("x", "s", "t"), ("y", "m", "n"), ("z", "s", "q")]
        self.refused(UselessLink("z"), Network, links, "s", "t")
        links[4] = ("z", "s", "t")
        self.refused(BadCount(9), Network, links, "s", "t")
        links[0] = ("v", "n", "t")
        links[1] = ("w", "n", "t")
        self.assertEqual(len(Network(links, "s", "t")), 10)


class Copies(ErrorCase):
    links = [("c", "p", "t"), ("a", "s", "p"), ("b", "s", "p")]

    def test_any_order_and_kind(self):
        for order in itertools.permutations(self.links):
            for links in [order, list(order), [list(link) for link in order], tuple(list(link) for link in order)]:
                network = Network(links, "s", "t")
                self.assertEqual(triples(network), sorted(self.links))
                self.assertEqual(network, Network(self.links, "s", "t"))

    def test_the_list_stays(self):
        links = list(self.links)
        Network(links, "s", "t")
        self.assertEqual(links, self.links)

    def test_the_list_stays_when_the_call_fails(self):
        links = [("c", "p", "t"), ("a", "s", "q"), ("b", "s", "p")]
        kept = list(links)
        self.refused(UselessLink("a"), Network, links, "s", "t")
        self.assertEqual(links, kept)

    def test_later_changes_have_no_effect(self):
        links = [list(link) for link in self.links]
        network = Network(links, "s", "t")
        links[0][1] = "s"
        links[1][0] = "z"
        links.append(["d", "s", "t"])
        del links[2]
        self.assertEqual(triples(network), sorted(self.links))
        self.assertEqual(list(network.ways()), [("a", "c"), ("b", "c")])

    def test_arguments_by_name(self):
        self.assertEqual(Network(end="t", start="s", links=self.links), Network(self.links, "s", "t"))

    def test_properties_cannot_be_set(self):
        network = Network(self.links, "s", "t")
        for word in ["start", "end", "names", "places"]:
            with self.assertRaises(AttributeError):
                setattr(network, word, "x")
        self.assertEqual(network, Network(self.links, "s", "t"))


class Properties(ErrorCase):
    def test_class_values(self):
        self.assertEqual((Network.MOST_LINKS, Network.MOST_PLACES), (10, 8))
        network = Network(side(1), "s", "t")
        self.assertEqual((network.MOST_LINKS, network.MOST_PLACES), (10, 8))

    def test_start_and_end(self):
        network = Network([("a", "z", "m"), ("b", "m", "b")], "z", "b")
        self.assertEqual((network.start, network.end), ("z", "b"))

    def test_names_in_ascending_order(self):
        network = Network([(name, "s", "t") for name in ["b", "a10", "a2", "ab", "a", "b0"]], "s", "t")
        self.assertEqual(network.names, ("a", "a10", "a2", "ab", "b", "b0"))

    def test_places_in_order(self):
        links = [("a", "z", "y"), ("b", "y", "x2"), ("c", "x2", "x10"), ("d", "x10", "a"), ("e", "z", "b"), ("f", "b", "a")]
        self.assertEqual(Network(links, "z", "a").places, ("z", "b", "x10", "x2", "y", "a"))
        self.assertEqual(Network(side(3), "s", "t").places, ("s", "t"))

    def test_kinds(self):
        for network in networks():
            self.assertIs(network.names.__class__, tuple)
            self.assertIs(network.places.__class__, tuple)


class Items(ErrorCase):
    def test_each_link(self):
        links = [("a", "s", "p"), ("p", "p", "q"), ("b", "q", "t"), ("a1", "s", "t")]
        network = Network(links, "s", "t")
        for name, tail, head in links:
            self.assertEqual(network[name], (tail, head))
            self.assertIs(network[name].__class__, tuple)
            self.assertIs(name in network, True)
        self.assertIs(len(network), 4)

    def test_unknown_names(self):
        network = Network([("a", "s", "p"), ("b", "p", "t")], "s", "t")
        for name in ["c", "s", "p", "t", "ab", "a1", "z9"] + WRONG_NAMES:
            self.refused(UnknownName(name), network.__getitem__, name)
            self.assertIs(name in network, False)
            self.assertIs(name not in network, True)

    def test_len(self):
        self.assertEqual([len(network) for network in networks()], [text.count("\n") for text in TEXTS])


class Equality(ErrorCase):
    def test_same_links_in_another_order(self):
        for network in networks():
            for turn in range(len(network)):
                links = triples(network)[turn:] + triples(network)[:turn]
                other = Network(tuple(links), network.start, network.end)
                self.assertIs(network == other, True)
                self.assertIs(network != other, False)

    def test_different_networks(self):
        every = networks()
        for one, two in itertools.combinations(every, 2):
            self.assertIs(one == two, False)
            self.assertIs(one != two, True)

    def test_a_link_laid_elsewhere(self):
        one = Network([("a", "s", "p"), ("b", "p", "t"), ("c", "s", "t")], "s", "t")
        for c in [("c", "s", "p"), ("c", "p", "t")]:
            self.assertIs(one == Network([("a", "s", "p"), ("b", "p", "t"), c], "s", "t"), False)

    def test_links_that_have_each_others_names(self):
        one = Network([("a", "s", "p"), ("b", "p", "t")], "s", "t")
        self.assertIs(one == Network([("b", "s", "p"), ("a", "p", "t")], "s", "t"), False)

    def test_a_link_with_another_name(self):
        self.assertIs(Network([("a", "s", "t")], "s", "t") == Network([("b", "s", "t")], "s", "t"), False)

    def test_a_link_more(self):
        self.assertIs(Network(side(2), "s", "t") == Network(side(3), "s", "t"), False)

    def test_another_start_or_end(self):
        one = Network([("a", "s", "t")], "s", "t")
        for tail, head in [("u", "t"), ("s", "u"), ("t", "s")]:
            self.assertIs(one == Network([("a", tail, head)], tail, head), False)

    def test_values_of_another_kind(self):
        network = Network([("a", "s", "t")], "s", "t")
        others = [
            "s > t\na: s > t", [("a", "s", "t")], (("a", "s", "t"),), {"a": ("s", "t")}, "a", 1, 0, None, True,
            Ratio(1), Line.straight(0), Building.link("a", "s", "t"), object(),
        ]
        for other in others:
            self.assertIs(network == other, False)
            self.assertIs(other == network, False)
            self.assertIs(network != other, True)


if __name__ == "__main__":
    unittest.main()
