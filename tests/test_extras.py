"""Extra links: points 8, 9, 10 and 53 to 56."""

import itertools
import random
import unittest

from extralink.buildings import building_of
from extralink.cases import Case, check_case
from extralink.errors import BadCount, BadName, DuplicateName, HasRound, NoHarm, NotBuilding, UnknownName, UselessLink
from extralink.extras import extra_harm, extra_kind, opened, pair_table
from extralink.networks import Network
from extralink.ratios import Ratio
from extralink.standings import loads_of
from extralink.witnesses import witness
from tests.helper import FOUR, WRONG_NAMES, ErrorCase, every_way, is_standing, networks, read, small_networks
from tests.helper import some_building, some_sharing, triples

TWO = read("asp bpt csq dqt")


def leads(network, first, second):
    """Whether links can be followed from one place to another, reckoned apart from the program."""
    ends = [network[name] for name in network.names]
    reached = {head for tail, head in ends if tail == first}
    for _ in ends:
        reached |= {head for tail, head in ends if tail in reached}
    return second in reached


def some_extra(rng, network, many):
    """Extra links that make no round, with names that the network does not have."""
    names = [name for name in ["w", "x", "y", "z", "k1", "k2"] if name not in network]
    extra = []
    while len(extra) < many:
        tail, head = rng.sample(network.places, 2)
        link = (names[len(extra)], tail, head)
        try:
            opened(network, [*extra, link])
        except ValueError:
            continue
        extra.append(link)
    return extra


class Opened(ErrorCase):
    def test_links(self):
        for extra in [[("x", "p", "q")], (("x", "p", "q"), ("y", "s", "t")), [], (), [("x", "p", "u"), ("aa", "u", "t")]]:
            network = opened(TWO, extra)
            self.assertIs(network.__class__, Network)
            self.assertEqual(network, Network([*triples(TWO), *extra], "s", "t"))

    def test_counts_come_first(self):
        extra = [("x" + str(at), "s", "t") for at in range(7)]
        self.refused(BadCount(11), opened, TWO, extra)
        self.refused(BadCount(12), opened, TWO, [*extra, ("", "", "")])
        self.assertEqual(len(opened(TWO, extra[:6])), 10)

    def test_names(self):
        for wrong in WRONG_NAMES:
            self.refused(BadName(wrong), opened, TWO, [(wrong, "s", "t")])
            self.refused(BadName(wrong), opened, TWO, [("x", wrong, "t")])
            self.refused(BadName(wrong), opened, TWO, [("x", "s", wrong)])
        self.refused(DuplicateName("a"), opened, TWO, [("a", "S", "t")])
        self.refused(DuplicateName("x"), opened, TWO, [("x", "s", "t"), ("x", "s", "t"), ("A", "s", "t")])
        self.refused(BadName("Y"), opened, TWO, [("x", "s", "t"), ("Y", "s", "t"), ("x", "s", "t")])

    def test_rounds(self):
        self.refused(HasRound("x"), opened, TWO, [("x", "p", "p")])
        self.refused(HasRound("a"), opened, TWO, [("x", "t", "s")])
        self.refused(HasRound("a"), opened, read("bsp cpt"), [("x", "t", "p"), ("a", "t", "s")])
        self.refused(HasRound("b"), opened, TWO, [("x", "t", "p")])
        self.refused(HasRound("x"), opened, TWO, [("y", "q", "p"), ("x", "p", "q")])

    def test_useless_links_and_places(self):
        self.refused(UselessLink("x"), opened, TWO, [("x", "s", "u")])
        self.refused(UselessLink("x"), opened, TWO, [("y", "v", "t"), ("x", "u", "t")])
        long = read("asp bpq cqr dru euv fvt")
        self.assertEqual(len(opened(long, [("x", "s", "w"), ("y", "w", "t")]).places), 8)
        self.refused(BadCount(9), opened, long, [("x", "s", "w"), ("y", "w", "z"), ("z", "z", "t")])

    def test_calls(self):
        extra = [("y", "p", "q"), ("x", "s", "t")]
        self.assertEqual(len(opened(extra=extra, network=TWO)), 6)
        self.assertEqual(extra, [("y", "p", "q"), ("x", "s", "t")])
        self.assertEqual(len(TWO), 4)


class Kinds(ErrorCase):
    def test_one_link(self):
        for tail, head in [("s", "t"), ("s", "p"), ("s", "q"), ("p", "t"), ("q", "t")]:
            self.assertEqual(extra_kind(TWO, [("x", tail, head)]), "along")
        for tail, head in [("p", "q"), ("q", "p")]:
            self.assertEqual(extra_kind(TWO, [("x", tail, head)]), "across")

    def test_several_links(self):
        along, across = ("x", "s", "t"), ("y", "p", "q")
        self.assertEqual(extra_kind(TWO, [along, ("z", "s", "q")]), "along")
        for extra in [[along, across], [across, along], (across, along, ("z", "p", "q"))]:
            self.assertEqual(extra_kind(TWO, extra), "across")
        self.assertEqual(extra_kind(TWO, [("x", "p", "t"), ("y", "p", "t"), ("z", "s", "q")]), "along")

    def test_no_links(self):
        for network in [TWO, read("ast"), read("asp bsp cpt dpt")]:
            self.assertEqual(extra_kind(network, []), "along")
            self.assertEqual(extra_kind(network, ()), "along")

    def test_along_though_the_opened_network_is_no_building(self):
        network = read("asp bpq cqt")
        extra = [("x", "s", "q"), ("y", "p", "t")]
        self.assertEqual(extra_kind(network, extra), "along")
        self.assertIsNone(building_of(opened(network, extra)))

    def test_the_network_without_the_extra_links_counts(self):
        # x alone would make p lead to q.
        self.assertEqual(extra_kind(TWO, [("x", "p", "q"), ("y", "p", "q")]), "across")
        network = read("asp bpt csq dqt esu fut")
        self.assertEqual(extra_kind(network, [("x", "p", "q"), ("y", "q", "u"), ("z", "p", "u")]), "across")

    def test_not_a_building(self):
        for extra in [[], [("x", "zz", "q")], [("a", "s", "t")], [("x", "q", "q")]]:
            self.refused(NotBuilding(), extra_kind, Network.read(FOUR), extra)
            self.refused(NotBuilding(), extra_harm, Network.read(FOUR), extra)

    def test_unknown_places(self):
        for function in [extra_kind, extra_harm]:
            self.refused(UnknownName("u"), function, TWO, [("x", "u", "v")])
            self.refused(UnknownName("v"), function, TWO, [("x", "p", "v")])
            self.refused(UnknownName("v"), function, TWO, [("A", "p", "q"), ("x", "t", "v"), ("x", "u", "q")])
            self.refused(UnknownName(""), function, TWO, [("a", "p", "q"), ("x", "p", "")])
            self.refused(UnknownName("S"), function, TWO, [("x" + str(at), "s", "t") for at in range(7)] + [("y", "S", "t")])
            self.refused(UnknownName("u"), function, TWO, [("x", "s", "u"), ("y", "u", "t")])
            self.refused(UnknownName("a"), function, TWO, [("x", "a", "t")])

    def test_what_opened_raises(self):
        for function in [extra_kind, extra_harm]:
            self.refused(BadCount(11), function, TWO, [("x" + str(at), "p", "q") for at in range(7)])
            self.refused(BadName("X"), function, TWO, [("X", "p", "q")])
            self.refused(DuplicateName("d"), function, TWO, [("x", "p", "q"), ("d", "s", "t")])
            self.refused(HasRound("x"), function, TWO, [("x", "p", "p")])
            self.refused(HasRound("a"), function, TWO, [("x", "p", "s")])
            self.refused(HasRound("x"), function, TWO, [("y", "q", "p"), ("x", "p", "q")])

    def test_all_pairs_of_places(self):
        rng = random.Random(25)
        for _ in range(60):
            network = some_building(rng, 8).network()
            for tail, head in itertools.permutations(network.places, 2):
                if leads(network, head, tail):
                    with self.assertRaises(HasRound):
                        extra_kind(network, [("z", tail, head)])
                else:
                    expected = "along" if leads(network, tail, head) else "across"
                    self.assertEqual(extra_kind(network, [("z", tail, head)]), expected)

    def test_calls(self):
        extra = [("y", "p", "q")]
        self.assertEqual(extra_kind(extra=extra, network=TWO), "across")
        self.assertEqual(extra, [("y", "p", "q")])


class Harm(ErrorCase):
    def assert_harm(self, network, extra):
        case = extra_harm(network, extra)
        larger = opened(network, extra)
        self.assertIs(case.__class__, Case)
        self.assertIs(case.total == Ratio(1), True)
        self.assertEqual(case.closed, tuple(name for name, _, _ in extra))
        self.assertIs(case.closed.__class__, tuple)
        self.assertEqual([str(held.times[network.end]) for held in (case.before, case.after)], ["2", "3/2"])
        self.assertLessEqual(set(larger.names), set(case.delays))
        self.assertTrue(is_standing(larger, case.delays, 1, case.before))
        self.assertTrue(is_standing(network, case.delays, 1, case.after))
        self.assertIs(check_case(larger, case), True)

    def test_one_link(self):
        self.assert_harm(TWO, [("x", "p", "q")])
        self.assert_harm(TWO, (("x", "q", "p"),))

    def test_several_links(self):
        across, along = [("x", "p", "q"), ("w", "p", "q")], [("y", "s", "t"), ("v", "p", "t"), ("u", "s", "q")]
        for extra in itertools.permutations(across + along[:2]):
            self.assert_harm(TWO, extra)
        self.assert_harm(TWO, [along[0], across[0]])
        self.assert_harm(TWO, along + across)

    def test_a_bridge_that_is_not_found_first(self):
        # The opened network has bridged pairs in which the extra link is no bridge.
        network = read("asx bxv cxq dqv evt fxt gsp hpt")
        self.assert_harm(network, [("z", "p", "q")])
        self.assert_harm(network, [("z", "q", "p")])
        self.assert_harm(network, [("y", "s", "t"), ("z", "p", "v")])

    def test_extra_links_that_are_bridged_themselves(self):
        network = read("asp bpq cqt dsu eut")
        self.assert_harm(network, [("x", "s", "q"), ("y", "p", "t"), ("z", "p", "u")])
        self.assert_harm(network, [("z", "u", "q"), ("x", "s", "q"), ("y", "p", "t")])
        self.assert_harm(network, [("x", "p", "u"), ("y", "u", "q")])

    def test_every_link_across(self):
        met = 0
        for many, most in [(4, 6), (5, 7)]:
            for network in small_networks(many, most):
                if building_of(network) is not None:
                    for tail, head in itertools.permutations(network.places, 2):
                        if not leads(network, tail, head) and not leads(network, head, tail):
                            self.assert_harm(network, [("z", tail, head)])
                            met += 1
        self.assertGreater(met, 50)

    def test_links_of_any_kind(self):
        rng = random.Random(26)
        met = {"along": 0, "across": 0}
        while min(met.values()) < 120:
            network = some_building(rng, 9).network()
            extra = some_extra(rng, network, rng.randint(1, min(4, 10 - len(network))))
            kind = extra_kind(network, extra)
            expected = all(leads(network, tail, head) for _, tail, head in extra)
            self.assertEqual(kind, "along" if expected else "across")
            met[kind] += 1
            if kind == "across":
                self.assert_harm(network, extra)
            else:
                self.refused(NoHarm("along"), extra_harm, network, extra)

    def test_no_harm(self):
        self.refused(NoHarm("along"), extra_harm, TWO, [])
        self.refused(NoHarm("along"), extra_harm, TWO, [("x", "s", "t"), ("y", "s", "p")])
        self.refused(NoHarm("along"), extra_harm, read("asp bpq cqt"), [("x", "s", "q"), ("y", "p", "t")])

    def test_the_witness_that_is_the_reason(self):
        rng = random.Random(27)
        met = 0
        while met < 300:
            network = some_building(rng, 8).network()
            extra = some_extra(rng, network, rng.randint(0, 2))
            if extra_kind(network, extra) == "along":
                larger = opened(network, extra)
                before = loads_of(larger, some_sharing(rng, larger, rng.choice([1, 2])))
                after = loads_of(network, some_sharing(rng, network, rng.choice([2, 3])))
                self.assertIn(witness(network, before, after), every_way(network))
                met += 1

    def test_calls(self):
        extra = [("y", "p", "q"), ("x", "s", "t")]
        first = extra_harm(TWO, extra)
        self.assertEqual(extra, [("y", "p", "q"), ("x", "s", "t")])
        for other in [extra_harm(extra=tuple(extra), network=TWO), extra_harm(Network(triples(TWO)[::-1], "s", "t"), extra)]:
            self.assertEqual((other.delays, other.total, other.closed), (first.delays, first.total, first.closed))
            self.assertEqual((other.before, other.after), (first.before, first.after))


class Tables(ErrorCase):
    def test_by_hand(self):
        self.assertEqual(pair_table(read("ast")), {("s", "t"): "along", ("t", "s"): "back"})
        along = [("s", "p"), ("s", "q"), ("s", "t"), ("p", "t"), ("q", "t")]
        expected = {**dict.fromkeys(along, "along"), **{(head, tail): "back" for tail, head in along}}
        self.assertEqual(pair_table(TWO), {**expected, ("p", "q"): "across", ("q", "p"): "across"})

    def test_against_the_words_of_the_document(self):
        rng = random.Random(28)
        for _ in range(100):
            network = some_building(rng).network()
            table = pair_table(network)
            self.assertEqual(set(table), set(itertools.permutations(network.places, 2)))
            for (first, second), kind in table.items():
                expected = "along" if leads(network, first, second) else "back" if leads(network, second, first) else "across"
                self.assertEqual(kind, expected)

    def test_a_round_exactly_for_back(self):
        for network in [TWO, read("asp bpt csq dqt esp"), read("asp bpq cqt dsu eut")]:
            for (first, second), kind in pair_table(network).items():
                if kind == "back":
                    with self.assertRaises(HasRound):
                        opened(network, [("z", first, second)])
                else:
                    self.assertEqual(extra_kind(network, [("z", first, second)]), kind)

    def test_new_for_each_call(self):
        pair_table(TWO).clear()
        pair_table(TWO)[("s", "t")] = "back"
        self.assertEqual(pair_table(TWO)[("s", "t")], "along")
        self.assertIsNot(pair_table(TWO), pair_table(TWO))

    def test_not_a_building(self):
        for network in networks():
            if building_of(network) is None:
                self.refused(NotBuilding(), pair_table, network)
            else:
                self.assertEqual(len(pair_table(network=network)), len(network.places) * (len(network.places) - 1))


class Examples(ErrorCase):
    def test_two_ways(self):
        network = Network.read("s > t\na: s > p\nb: p > t\nc: s > q\nd: q > t")
        extra = [("x", "p", "q"), ("y", "s", "t")]
        told = [extra_kind(network, extra), extra_kind(network, extra[1:]), pair_table(network)[("t", "p")]]
        self.assertEqual(told, ["across", "along", "back"])
        case = extra_harm(network, extra)
        self.assertEqual([case.closed, check_case(opened(network, extra), case)], [("x", "y"), True])


if __name__ == "__main__":
    unittest.main()
