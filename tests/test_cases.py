"""Cases: points 8, 9, 10, 49 and 50."""

import itertools
import random
import unittest

from extralink.cases import Case, check_case, harm
from extralink.errors import NoHarm
from extralink.lines import Line
from extralink.networks import Network
from extralink.ratios import Ratio
from extralink.standings import Standing
from extralink.verdicts import decide
from tests.helper import FOUR, ErrorCase, is_standing, networks, read, small_networks, some_building
from tests.helper import some_network, triples

HALF = Ratio(1, 2)
UP = Line.straight(0, 1)
BRIDGE = Network.read(FOUR)
DELAYS = {"a": UP, "b": Line.straight(1), "c": Line.straight(0), "d": Line.straight(1), "e": UP}
BEFORE = Standing({"a": 1, "b": 0, "c": 1, "d": 0, "e": 1}, {"s": 0, "p": 1, "q": 1, "t": 2})
AFTER = Standing(dict.fromkeys("abde", HALF), {"s": 0, "p": HALF, "q": 1, "t": Ratio(3, 2)})


def case_of(delays=DELAYS, total=1, closed=("c",), before=BEFORE, after=AFTER):
    return Case(delays, total, closed, before, after)


def times(network, case):
    return [str(held.times[network.end]) for held in (case.before, case.after)]


# With a lead and a rest, with longer parts, with links beside and across the pair.
BRIDGED = [read(rows) for rows in [
    "asp bsq cpq dpt eqt",
    "asp bsq cpq dpt eqt fst",
    "lsc ecp fcq gpm hqm ipq rmt",
    "ksu luc ecp fcq gpm hqm ipq rmt",
    "ecp fcq gpm hqm ipq kmu rut lsc",
    "asu bup cpv dvt esw fwq gqt hpq",
    "asc bcp ecq fpu gum hqm ipv jvq kmt",
    "asp bsp cpt dpt esq fsq gqt hqt ipq jpq",
    "asp bpt csq dqt epo fou guq hst isu jot",
    "asp bpt csq dqt epo foq gso hot ipt jsq",
    "asp bpq cqr dru euv fvw gwt hpu irv jsq",
]]


class Objects(ErrorCase):
    def test_properties(self):
        case = case_of()
        self.assertEqual(case.delays, DELAYS)
        self.assertEqual((str(case.total), case.closed), ("1", ("c",)))
        self.assertIs(case.before == BEFORE, True)
        self.assertIs(case.after == AFTER, True)

    def test_the_total_is_a_ratio(self):
        for total, text in [(1, "1"), (Ratio(1), "1"), (Ratio(6, 4), "3/2"), (-3, "-3"), (10 ** 15, str(10 ** 15))]:
            case = case_of(total=total)
            self.assertIs(case.total.__class__, Ratio)
            self.assertEqual(str(case.total), text)

    def test_delays_are_new_for_each_call(self):
        case = case_of()
        case.delays["a"] = Line.straight(7)
        case.delays.clear()
        self.assertIsNot(case.delays, case.delays)
        self.assertEqual(case.delays, DELAYS)
        self.assertIs(check_case(BRIDGE, case), True)

    def test_what_was_passed_may_change_later(self):
        delays, closed = dict(DELAYS), ["c"]
        case = case_of(delays=delays, closed=closed)
        delays["a"] = Line.straight(7)
        del delays["b"]
        closed.append("a")
        self.assertEqual((case.delays, case.closed), (DELAYS, ("c",)))

    def test_arguments_by_name(self):
        case = Case(after=AFTER, before=BEFORE, closed=("c",), total=1, delays=DELAYS)
        self.assertIs(check_case(case=case, network=BRIDGE), True)

    def test_not_equal_to_a_value_of_another_kind(self):
        for other in [None, (DELAYS, 1, ("c",), BEFORE, AFTER), 0, ""]:
            self.assertIs(case_of() == other, False)


class Right(ErrorCase):
    def test_one_link(self):
        self.assertIs(check_case(BRIDGE, case_of()), True)
        self.assertIs(check_case(BRIDGE, case_of(total=Ratio(1))), True)
        self.assertIs(check_case(BRIDGE, case_of(delays={**DELAYS, "z": UP})), True)

    def test_several_links(self):
        network = Network([*triples(BRIDGE), ("f", "p", "q"), ("g", "s", "t")], "s", "t")
        delays = {**DELAYS, "f": Line.straight(0), "g": Line.straight(2)}
        before = Standing({**BEFORE.loads, "f": HALF, "c": HALF, "g": 0}, BEFORE.times)
        for closed in itertools.permutations(["c", "f", "g"]):
            case = case_of(delays=delays, closed=closed, before=before)
            self.assertIs(check_case(network, case), True)
        after = Standing({**AFTER.loads, "g": 0}, AFTER.times)
        self.assertIs(check_case(network, case_of(delays=delays, closed=("f", "c"), before=before, after=after)), True)
        self.assertIs(check_case(network, case_of(delays=delays, closed=("f", "c", "f"), before=before, after=after)), True)

    def test_links_that_become_useless(self):
        network = read("asp bsq cpo foq dpt eqt")
        delays = {**DELAYS, "f": Line.straight(0)}
        before = Standing({**BEFORE.loads, "f": 1}, {**BEFORE.times, "o": 1})
        for closed in [("c",), ("f",), ("c", "f")]:
            self.assertIs(check_case(network, case_of(delays=delays, closed=closed, before=before)), True)


class Wrong(ErrorCase):
    def assert_wrong(self, **changes):
        self.assertIs(check_case(BRIDGE, case_of(**changes)), False)

    def test_no_closed_link(self):
        # All standings of a network have one and the same time.
        self.assert_wrong(closed=())
        self.assert_wrong(closed=(), after=BEFORE)
        self.assert_wrong(closed=(), before=AFTER)

    def test_strange_names(self):
        for closed in [("z",), ("c", "z"), ("z", "c"), ("s",), ("",), ("cc",), ("c", "C"), ("p",)]:
            self.assert_wrong(closed=closed)

    def test_no_way_left(self):
        for closed in [("a", "b"), ("d", "e"), ("c", "a", "e", "b"), tuple("abcde"), ("a", "e", "b")]:
            self.assert_wrong(closed=closed)
        self.assert_wrong(closed=("a", "e"))

    def test_other_closed_links(self):
        for closed in [("a",), ("b",), ("d",), ("e",), ("c", "a"), ("c", "e")]:
            self.assert_wrong(closed=closed)

    def test_the_standing_before(self):
        loads, reached = BEFORE.loads, BEFORE.times
        for before in [
            AFTER, Standing({}, {}), Standing({**loads, "a": 2}, reached), Standing(loads, {**reached, "t": 3}),
            Standing(loads, {**reached, "s": 1}), Standing(loads, {**reached, "p": HALF}), Standing({**loads, "z": 0}, reached),
            Standing(loads, {**reached, "z": 0}), Standing({**AFTER.loads, "c": 0}, AFTER.times),
            Standing({"a": HALF, "b": HALF, "c": 0, "d": HALF, "e": HALF}, reached),
        ]:
            self.assert_wrong(before=before)

    def test_the_standing_after(self):
        loads, reached = AFTER.loads, AFTER.times
        for after in [
            BEFORE, Standing({}, {}), Standing({**loads, "c": 0}, reached), Standing(loads, {**reached, "t": 1}),
            Standing({**loads, "a": 1}, reached), Standing({"a": 1, "b": 0, "d": 1, "e": 0}, {**reached, "t": 1}),
            Standing(loads, {**reached, "z": 0}), Standing(loads, {**reached, "p": 1}),
        ]:
            self.assert_wrong(after=after)

    def test_the_total(self):
        for total in [0, 2, HALF, -1, Ratio(1000000001, 1000000000)]:
            self.assert_wrong(total=total)
        two = Standing({name: load * 2 for name, load in BEFORE.loads.items()}, BEFORE.times)
        self.assert_wrong(before=two)
        self.assert_wrong(after=Standing({name: load * 2 for name, load in AFTER.loads.items()}, AFTER.times))

    def test_delays(self):
        for name in "abcde":
            self.assert_wrong(delays={**DELAYS, name: Line.straight(Ratio(1, 3))})

    def test_a_time_that_stays_or_rises(self):
        network = read("ast bst")
        delays = {"a": Line.straight(1), "b": Line.straight(1)}
        before = Standing({"a": 1, "b": 0}, {"s": 0, "t": 1})
        self.assertIs(check_case(network, Case(delays, 1, ("b",), before, Standing({"a": 1}, {"s": 0, "t": 1}))), False)
        delays = {"a": UP, "b": UP}
        before = Standing({"a": HALF, "b": HALF}, {"s": 0, "t": HALF})
        self.assertIs(check_case(network, Case(delays, 1, ("b",), before, Standing({"a": 1}, {"s": 0, "t": 1}))), False)
        # Right standings on both sides whose times are equal: the bridge takes so long that it is not used.
        slow = {**DELAYS, "c": Line.straight(HALF)}
        self.assert_wrong(delays=slow, before=Standing({**AFTER.loads, "c": 0}, AFTER.times))


class Harm(ErrorCase):
    def assert_harm(self, network):
        case = harm(network)
        self.assertIs(case.__class__, Case)
        self.assertIs(case.total == Ratio(1), True)
        self.assertIs(case.closed.__class__, tuple)
        self.assertEqual(len(case.closed), 1)
        self.assertIn(case.closed[0], network)
        self.assertEqual(times(network, case), ["2", "3/2"])
        self.assertLessEqual(set(network.names), set(case.delays))
        self.assertTrue(is_standing(network, case.delays, 1, case.before))
        self.assertTrue(is_standing(network.without(case.closed), case.delays, 1, case.after))
        self.assertIs(check_case(network, case), True)

    def test_known_networks(self):
        for network in [*BRIDGED, *networks()]:
            if decide(network).kind == "bridged":
                self.assert_harm(network)

    def test_all_small_networks(self):
        met = 0
        for many, most in [(4, 6), (5, 10)]:
            for network in small_networks(many, most):
                if decide(network).kind == "bridged":
                    self.assert_harm(network)
                    met += 1
                else:
                    self.refused(NoHarm(decide(network).kind), harm, network)
        self.assertGreater(met, 70)

    def test_large_networks(self):
        rng = random.Random(21)
        met = 0
        while met < 150:
            network = some_network(rng, rng.randint(4, 8), rng.randint(8, 10))
            if decide(network).kind == "bridged":
                self.assert_harm(network)
                met += 1

    def test_buildings(self):
        rng = random.Random(22)
        kinds = set()
        for _ in range(100):
            building = some_building(rng)
            kinds.add("tail" if building.tailed else "woven")
            self.refused(NoHarm("tail" if building.tailed else "woven"), harm, building.network())
        self.assertEqual(kinds, {"tail", "woven"})
        self.refused(NoHarm("tail"), harm, read("ast"))
        self.refused(NoHarm("woven"), harm, read("asp bsp cpt dpt"))

    def test_equal_arguments(self):
        network = BRIDGED[1]
        first = harm(network)
        for order in itertools.permutations(triples(network)):
            case = harm(network=Network(order, "s", "t"))
            self.assertEqual((case.delays, case.total, case.closed), (first.delays, first.total, first.closed))
            self.assertEqual((case.before, case.after), (first.before, first.after))


class Examples(ErrorCase):
    def test_harm(self):
        network = Network.read("s > t\na: s > p\nb: s > q\nc: p > q\nd: p > t\ne: q > t")
        case = harm(network)
        told = [case.closed, str(case.before.times["t"]), str(case.after.times["t"]), check_case(network, case)]
        self.assertEqual(told, [("c",), "2", "3/2", True])

    def test_no_harm(self):
        self.refused(NoHarm("tail"), harm, Network.read("s > t\na: s > t\nb: s > t"))


if __name__ == "__main__":
    unittest.main()
