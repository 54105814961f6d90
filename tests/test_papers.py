"""Which papers are certificates: points 9, 36, 46 and 47."""

import itertools
import random
import unittest

from extralink.buildings import Building, building_of, chain, fork
from extralink.errors import ExtralinkError
from extralink.networks import Network
from extralink.verdicts import check_paper
from tests.helper import ErrorCase, FOUR, WRONG_NAMES, networks, plans, read, small_networks, some_building

KINDS = ["tail", "woven", "bridged"]


def link(name):
    return ("link", name)


def row(*parts):
    return ("chain", tuple(link(part) if isinstance(part, str) else part for part in parts))


def beside(*parts):
    return ("fork", tuple(link(part) if isinstance(part, str) else part for part in parts))


def names_in(plan):
    return [plan[1]] if plan[0] == "link" else [name for part in plan[1] for name in names_in(part)]


def formed(plan):
    """Whether no chain or fork has fewer than two parts or a part of its own shape."""
    return plan[0] == "link" or len(plan[1]) > 1 and all(part[0] != plan[0] and formed(part) for part in plan[1])


def built(network, plan):
    """The building that a plan describes; what does not fit raises an error."""
    if plan[0] == "link":
        return Building.link(plan[1], *network[plan[1]])
    return {"chain": chain, "fork": fork}[plan[0]](*[built(network, part) for part in plan[1]])


def kind_of(network, plan):
    """The kind of a right plan, and None for any other one."""
    if sorted(names_in(plan)) != list(network.names) or not formed(plan):
        return None
    try:
        building = built(network, plan)
    except ExtralinkError:
        return None
    if building.network() != network:
        return None
    return "tail" if building.tailed else "woven"


def plan_from(building):
    if building.shape == "link":
        return link(building.names[0])
    return (building.shape, tuple(plan_from(part) for part in building.parts))


def shuffled(rng, plan):
    """The plan with the branches of its forks in another order."""
    if plan[0] == "link":
        return plan
    parts = [shuffled(rng, part) for part in plan[1]]
    return (plan[0], tuple(rng.sample(parts, len(parts)) if plan[0] == "fork" else parts))


def spots(plan):
    """All plans within a plan, as rows of indexes."""
    return [()] + ([(at, *rest) for at, part in enumerate(plan[1]) for rest in spots(part)] if plan[0] != "link" else [])


def part_at(plan, spot):
    return part_at(plan[1][spot[0]], spot[1:]) if spot else plan


def with_part(plan, spot, part):
    if not spot:
        return part
    parts = list(plan[1])
    parts[spot[0]] = with_part(parts[spot[0]], spot[1:], part)
    return (plan[0], tuple(parts))


def changes(plan, part):
    """Plans that could stand in the place of a part."""
    yield from [row(part), beside(part), ("chain", ()), ("fork", ()), row(part, part), beside(part, part), link("zz")]
    if part[0] == "link":
        yield from [link(name) for name in names_in(plan)]
        return
    other = "fork" if part[0] == "chain" else "chain"
    yield from [(other, part[1]), (part[0], part[1][::-1]), (part[0], part[1][1:]), (part[0], part[1] + part[1][:1])]
    yield (part[0], ((part[0], part[1][:2]), *part[1][2:]))
    yield (part[0], ((other, part[1][:2]), *part[1][2:]))
    yield (part[0], part[1][1:] + part[1][:1])


WOVEN = read("asp bsp cpt dpt")
WOVEN_PLAN = row(beside("a", "b"), beside("c", "d"))
TAIL = read("asp bsq cqp dpt est")
TAIL_PLAN = beside(row(beside("a", row("b", "c")), "d"), "e")


class PlanCase(ErrorCase):
    def assert_kind(self, network, plan, expected):
        self.assertEqual(kind_of(network, plan), expected)
        for kind in KINDS[:2]:
            self.assertIs(check_paper(network, (kind, plan)), kind == expected, (str(network), kind, plan))


class Right(PlanCase):
    def test_by_hand(self):
        self.assert_kind(Network([("a", "s", "t")], "s", "t"), link("a"), "tail")
        self.assert_kind(read("bsp apt"), row("b", "a"), "tail")
        self.assert_kind(read("ast bst cst"), beside("b", "c", "a"), "tail")
        self.assert_kind(TAIL, TAIL_PLAN, "tail")
        self.assert_kind(WOVEN, WOVEN_PLAN, "woven")
        self.assert_kind(read("asp bsp cpq dqt eqt"), row(beside("a", "b"), "c", beside("d", "e")), "woven")

    def test_two_forks_far_within(self):
        network = read("ast bsp cpq dpq eqr fqr grt")
        self.assert_kind(network, beside("a", row("b", beside("c", "d"), beside("e", "f"), "g")), "woven")

    def test_branches_in_any_order(self):
        for order in itertools.permutations(WOVEN_PLAN[1][0][1]):
            self.assert_kind(WOVEN, row(("fork", order), WOVEN_PLAN[1][1]), "woven")
        for order in itertools.permutations("abc"):
            self.assert_kind(read("ast bst cst"), beside(*order), "tail")

    def test_buildings_of_any_form(self):
        rng = random.Random(18)
        for _ in range(300):
            building = some_building(rng)
            plan = shuffled(rng, plan_from(building))
            self.assert_kind(building.network(), plan, "tail" if building.tailed else "woven")

    def test_bridged(self):
        pair = ((), ("a",), ("d",), ("b",), ("e",), ("c",), ())
        self.assertIs(check_paper(Network.read(FOUR), ("bridged", pair)), True)
        longer = read("ksu luc ecp fcq gpm hqm ipq rmt")
        self.assertIs(check_paper(longer, ("bridged", tuple(map(tuple, ["kl", "e", "g", "f", "h", "i", "r"])))), True)


class Wrong(PlanCase):
    def test_a_link_left_out(self):
        self.assert_kind(read("ast bst cst"), beside("a", "b"), None)
        self.assert_kind(TAIL, TAIL_PLAN[1][0], None)
        self.assert_kind(TAIL, beside(row("a", "d"), "e"), None)

    def test_a_link_twice(self):
        self.assert_kind(read("ast bst"), beside("a", "b", "a"), None)
        self.assert_kind(read("ast bst"), beside("a", "a"), None)
        self.assert_kind(Network([("a", "s", "t")], "s", "t"), beside("a", "a"), None)

    def test_a_strange_link(self):
        for name in ["z", "s", "t", "aa", *WRONG_NAMES]:
            self.assert_kind(read("ast bst"), beside("a", "b", name), None)
            self.assert_kind(read("ast bst"), beside("a", name), None)
            self.assert_kind(Network([("a", "s", "t")], "s", "t"), link(name), None)

    def test_one_part_or_none(self):
        network = Network([("a", "s", "t")], "s", "t")
        for shape in ["chain", "fork"]:
            self.assert_kind(network, (shape, ()), None)
            self.assert_kind(network, (shape, (link("a"),)), None)
            self.assert_kind(network, (shape, (link("a"), (shape, ()))), None)
            self.assert_kind(read("asp bpt"), row((shape, (link("a"),)), "b"), None)
        self.assert_kind(network, row("a", beside()), None)
        self.assert_kind(network, beside("a", row()), None)

    def test_a_chain_in_a_chain_and_a_fork_in_a_fork(self):
        network = read("asp bpq cqt")
        self.assert_kind(network, row("a", "b", "c"), "tail")
        self.assert_kind(network, row(row("a", "b"), "c"), None)
        self.assert_kind(network, row("a", row("b", "c")), None)
        network = read("ast bst cst")
        self.assert_kind(network, beside(beside("a", "b"), "c"), None)
        self.assert_kind(network, beside("a", beside("b", "c")), None)
        self.assert_kind(read("ast bsp cpq dqt"), beside("a", row(row("b", "c"), "d")), None)

    def test_parts_that_do_not_meet(self):
        self.assert_kind(read("asp bpt"), row("b", "a"), None)
        self.assert_kind(read("asp bpq cqt"), row("a", "c", "b"), None)
        self.assert_kind(read("asp bpt csq dqt"), beside(row("a", "d"), row("b", "c")), None)
        self.assert_kind(read("asp bpt csq dqt"), beside(row("a", "d"), row("c", "b")), None)

    def test_a_fork_between_different_places(self):
        self.assert_kind(read("asp bpt"), beside("a", "b"), None)
        self.assert_kind(read("asp bpt cst"), beside("a", "b", "c"), None)
        self.assert_kind(read("asp bsq cpt dqt"), row(beside("a", "b"), beside("c", "d")), None)
        self.assert_kind(read("asp bpq cpt dqt"), row("a", beside("b", "c"), "d"), None)

    def test_a_joint_twice(self):
        self.assert_kind(WOVEN, beside(row("a", "c"), row("b", "d")), None)
        self.assert_kind(read("asp bsp cpt dpt est"), beside(row("a", "d"), row("b", "c"), "e"), None)
        network = read("asp bpt cst dsp fpq gqt")
        self.assert_kind(network, beside(row("a", "b"), row("d", "f", "g"), "c"), None)

    def test_a_wrong_start_or_end(self):
        # A plan with all links can lead from another place or to another one only if parts do not meet.
        network = read("asp bpt cst")
        for plan in [row("a", "b"), link("a"), link("b"), beside(row("a", "c"), "b"), beside(row("b", "c"), "a"), row("c", "a", "b")]:
            self.assert_kind(network, plan, None)

    def test_the_other_kind(self):
        self.assertIs(check_paper(WOVEN, ("tail", WOVEN_PLAN)), False)
        self.assertIs(check_paper(TAIL, ("woven", TAIL_PLAN)), False)
        self.assertIs(check_paper(Network([("a", "s", "t")], "s", "t"), ("woven", link("a"))), False)

    def test_plans_of_bridged_networks(self):
        network = Network.read(FOUR)
        for plan in [
            beside(row("a", "d"), row("b", "e")), beside(row("a", "c", "e"), row("b", "d")), beside(*"abcde"), row(*"abcde"),
            row("a", beside("c", "d"), "e", "b"), beside(row("a", beside("d", row("c", "e"))), "b"),
        ]:
            self.assert_kind(network, plan, None)

    def test_every_plan_of_a_bridged_network(self):
        def filled(plan, names):
            return link(next(names)) if plan == "link" else (plan[0], tuple(filled(part, names) for part in plan[1:]))

        for plan in plans(5):
            for order in itertools.permutations("abcde"):
                for kind in KINDS[:2]:
                    self.assertIs(check_paper(Network.read(FOUR), (kind, filled(plan, iter(order)))), False)

    def test_pairs_that_are_none(self):
        pair = ((), ("a",), ("d",), ("b",), ("e",), ("c",), ())
        for wrong in [pair[::-1], ((),) * 7, (("a",),) * 7, (*pair[:5], (), ()), (*pair[:5], ("z",), ()), (("a",), *pair[1:])]:
            self.assertIs(check_paper(Network.read(FOUR), ("bridged", wrong)), False)
        for network in [TAIL, WOVEN]:
            self.assertIs(check_paper(network, ("bridged", pair)), False)

    def test_nested_twenty_deep(self):
        deep = link("a")
        for at in range(20):
            deep = (beside if at % 2 else row)(deep, "b")
        lone = link("a")
        for at in range(20):
            lone = (beside if at % 2 else row)(lone)
        empty = row()
        for at in range(19):
            empty = (beside if at % 2 else row)(empty, *["abcdefghij"[at // 2]] * (at % 2))
        for network in networks():
            for plan in [deep, lone, empty]:
                self.assert_kind(network, plan, None)

    def test_deep_and_right(self):
        plan = link("a")
        for at in range(4):
            plan = beside("bcde"[at], row("fghi"[at], plan))
        self.assert_kind(read("est isp dpt hpq cqt gqr brt fru aut"), plan, "tail")


class Changed(PlanCase):
    def test_parts_that_are_changed(self):
        met = set()
        for network, plan in [(WOVEN, WOVEN_PLAN), (TAIL, TAIL_PLAN)]:
            for spot in spots(plan):
                for part in changes(plan, part_at(plan, spot)):
                    other = with_part(plan, spot, part)
                    met.add(kind_of(network, other))
                    self.assert_kind(network, other, kind_of(network, other))
        self.assertEqual(met, {None, "tail", "woven"})

    def test_parts_of_any_building_that_are_changed(self):
        rng = random.Random(19)
        for _ in range(80):
            building = some_building(rng)
            plan = plan_from(building)
            for spot in rng.sample(spots(plan), min(3, len(spots(plan)))):
                for part in changes(plan, part_at(plan, spot)):
                    other = with_part(plan, spot, part)
                    self.assert_kind(building.network(), other, kind_of(building.network(), other))

    def test_plans_of_other_networks(self):
        every = list(small_networks(4, 5, parallel=True))
        known = [plan_from(building_of(network)) for network in every if building_of(network) is not None]
        for network in every:
            for plan in known:
                self.assert_kind(network, plan, kind_of(network, plan))


class Calls(ErrorCase):
    def test_arguments_by_name(self):
        self.assertIs(check_paper(paper=("woven", WOVEN_PLAN), network=WOVEN), True)


if __name__ == "__main__":
    unittest.main()
