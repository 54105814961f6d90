"""Verdicts: points 7, 9, 35, 37 and 48."""

import itertools
import random
import unittest

from extralink.buildings import building_of
from extralink.networks import Network
from extralink.pairs import check_pair, find_pair
from extralink.verdicts import Verdict, check_paper, decide
from tests.helper import FOUR, ErrorCase, Maker, PLACES, is_building, networks, plans, read, small_networks
from tests.helper import some_building, some_network, triples


def tuples_only(value):
    return isinstance(value, str) or value.__class__ is tuple and all(map(tuples_only, value))


class VerdictCase(ErrorCase):
    def assert_verdict(self, network, kind=None):
        verdict = decide(network)
        self.assertIs(verdict.__class__, Verdict)
        self.assertIn(verdict.kind, ["tail", "woven", "bridged"])
        if kind is not None:
            self.assertEqual(verdict.kind, kind)
        self.assertEqual(verdict.kind != "bridged", is_building(network))
        self.assertIs(verdict.calm, verdict.kind != "bridged")
        self.assertTrue(tuples_only(verdict.paper))
        self.assertEqual(verdict.paper[0], verdict.kind)
        self.assertIs(check_paper(network, verdict.paper), True)
        self.assert_one_kind(network, verdict)

    def assert_one_kind(self, network, verdict):
        told = verdict.paper[1]
        if verdict.kind == "bridged":
            self.assertIs(check_pair(network, told), True)
            return
        for kind in ["tail", "woven"]:
            self.assertIs(check_paper(network, (kind, told)), kind == verdict.kind)
        self.assertIsNone(find_pair(network))
        building = building_of(network)
        self.assertEqual(verdict.kind, "tail" if building.tailed else "woven")


class Decide(VerdictCase):
    def test_by_hand(self):
        for rows, kind in [
            ("ast", "tail"), ("asp bpt", "tail"), ("ast bst", "tail"), ("asp bsp cpt", "tail"), ("asp bpt cst", "tail"),
            ("asp bpq cpq dqr ert", "tail"), ("asp bpt csq dqt", "tail"), ("asp bpt cpt dst", "tail"),
            ("asp bsp cpt dpt", "woven"), ("asp bsp cpq dqt eqt", "woven"), ("ast bsp csp dpt ept", "woven"),
            ("asp bsp cpt dpq epq fqt", "woven"), ("asp bsp cpt dpq eqt", "woven"),
            ("asp bsq cpq dpt eqt", "bridged"), ("asp bsq cpq dpt eqt fst", "bridged"),
            ("asp bpq cpq dqr eqr frt", "woven"), ("asp bpq csq dqr ert fqt", "woven"),
        ]:
            self.assert_verdict(read(rows), kind)

    def test_papers_by_hand(self):
        self.assertEqual(decide(read("ast")).paper, ("tail", ("link", "a")))
        self.assertEqual(decide(read("bsp apt")).paper, ("tail", ("chain", (("link", "b"), ("link", "a")))))
        pair = ((), ("a",), ("d",), ("b",), ("e",), ("c",), ())
        self.assertEqual(decide(Network.read(FOUR)).paper, ("bridged", pair))

    def test_those_of_the_helper(self):
        kinds = ["tail", "tail", "tail", "tail", "woven", "bridged", "tail", "bridged", "bridged", "bridged"]
        for network, kind in zip(networks(), kinds):
            self.assert_verdict(network, kind)

    def test_small_networks(self):
        for many, most in [(2, 4), (3, 6), (4, 6)]:
            for network in small_networks(many, most, parallel=True):
                self.assert_verdict(network)
        for network in small_networks(5, 10):
            self.assert_verdict(network)

    def test_forms_of_buildings(self):
        for many in range(1, 6):
            for plan in plans(many):
                self.assert_verdict(Maker("dbcae", PLACES).build(plan).network())

    def test_large_networks(self):
        rng = random.Random(20)
        met = {"tail": 0, "woven": 0, "bridged": 0}
        for _ in range(300):
            network = some_network(rng, rng.randint(4, 8), 10)
            self.assert_verdict(network)
            met[decide(network).kind] += 1
        for _ in range(200):
            self.assert_verdict(some_building(rng).network())
        self.assertGreater(min(met.values()), 20)

    def test_ten_links(self):
        self.assert_verdict(read("ast bst cst dst est fst gst hst ist jst"), "tail")
        self.assert_verdict(read("asp bpq cqr dru euv fvw gwt hst ipt jpt"), "tail")
        self.assert_verdict(read("asp bsp cpq dpq eqr fqr gru hru iut jut"), "woven")
        self.assert_verdict(read("asp bpq cqr dru euv fvw gwt hpu irv jsq"), "bridged")


class Verdicts(VerdictCase):
    def test_attributes(self):
        for paper in [("tail", ("link", "a")), ("woven", ("fork", ())), ("bridged", ((),) * 7)]:
            verdict = Verdict(paper)
            self.assertEqual(vars(verdict), {"kind": paper[0], "paper": paper})
            self.assertIs(verdict.calm, paper[0] != "bridged")
            self.assertEqual(Verdict(paper=paper).kind, paper[0])

    def test_not_equal_to_a_value_of_another_kind(self):
        verdict = decide(read("ast"))
        for other in [None, "tail", verdict.paper, 0]:
            self.assertIs(verdict == other, False)

    def test_equal_networks_have_equal_papers(self):
        for network in [read("asp bsp cpt dpt est"), read("asp bsq cpq dpt eqt fst"), read("fsp epq csq dqt bst apt")]:
            paper = decide(network).paper
            for order in itertools.permutations(triples(network)):
                self.assertEqual(decide(Network(order, "s", "t")).paper, paper)

    def test_arguments_by_name(self):
        self.assertEqual(decide(network=read("ast")).paper, ("tail", ("link", "a")))

    def test_the_network_stays(self):
        network = read("bsp apt cst")
        decide(network)
        self.assertEqual(str(network), "s > t\na: p > t\nb: s > p\nc: s > t")


class Examples(ErrorCase):
    def test_tail_and_woven(self):
        network = Network.read("s > t\na: s > p\nb: s > p\nc: p > t")
        plan = ("chain", (("fork", (("link", "b"), ("link", "a"))), ("link", "c")))
        told = [decide(network).kind, check_paper(network, ("tail", plan)), check_paper(network, ("woven", plan))]
        self.assertEqual(told, ["tail", True, False])
        verdict = decide(network.joined("d", "p", "t"))
        self.assertEqual([verdict.kind, verdict.calm], ["woven", True])


if __name__ == "__main__":
    unittest.main()
