"""The program as a whole: points 1, 7 to 10, and that the interface stands where the document lists it."""

import ast
import inspect
import random
import unittest
from pathlib import Path

import extralink
from extralink.buildings import building_of
from extralink.cases import Case, Swap, better, check_case, check_swap, harm
from extralink.errors import ExtralinkError, NoHarm, NoWay
from extralink.extras import extra_harm, extra_kind, opened, pair_table
from extralink.closings import least_closings
from extralink.lines import Line
from extralink.networks import Network
from extralink.pairs import find_pair
from extralink.ratios import Ratio
from extralink.standings import standing, time_line
from extralink.verdicts import check_paper, decide
from extralink.witnesses import witness
from tests.helper import ErrorCase, fraction, is_building, small_networks, some_building, some_delays, some_line
from tests.helper import some_network, some_sharing, triples

# For each file its functions with their arguments, and its classes with what they have of their own.
INTERFACE = {
    "naming": {"valid_name": ["text"]},
    "ratios": {"as_ratio": ["value"], "least": ["values"], "greatest": ["values"], "Ratio": {
        "__init__": ["top", "bottom"], "top": None, "bottom": None, "sign": None, "over": ["value"], "below": ["value"],
        "read": ["text"], "__neg__": [], "__sub__": ["other"], "__rsub__": ["other"], "__add__": ["other"],
        "__radd__": ["other"], "__mul__": ["other"], "__rmul__": ["other"], "__eq__": ["other"], "__str__": []}},
    "networks": {"Network": {
        "__init__": ["links", "start", "end"], "start": None, "end": None, "names": None, "places": None,
        "leads": ["first", "second"], "ways": [], "without": ["names"], "joined": ["name", "tail", "head"],
        "read": ["text"], "__getitem__": ["name"], "__contains__": ["name"], "__len__": [], "__eq__": ["other"],
        "__str__": []}},
    "lines": {"shares": ["lines", "load"], "Line": {
        "__init__": ["corners", "slope"], "corners": None, "slope": None, "covers": ["other"],
        "straight": ["base", "slope"], "__call__": ["load"], "__add__": ["other"], "__or__": ["other"],
        "__eq__": ["other"]}},
    "buildings": {"chain": ["parts"], "fork": ["parts"], "building_of": ["network"], "Building": {
        "link": ["name", "tail", "head"], "shape": None, "start": None, "end": None, "parts": None, "names": None,
        "places": None, "tailed": None, "network": [], "__add__": ["other"], "__or__": ["other"], "__eq__": ["other"],
        "__str__": []}},
    "pairs": {"check_pair": ["network", "pair"], "find_pair": ["network"]},
    "standings": {
        "loads_of": ["network", "sharing"], "way_time": ["delays", "loads", "way"],
        "check_standing": ["network", "delays", "total", "standing"], "standing": ["building", "delays", "total"],
        "time_line": ["building", "delays"],
        "Standing": {"__init__": ["loads", "times"], "loads": None, "times": None, "__eq__": ["other"]}},
    "witnesses": {
        "witness": ["network", "before", "after"], "used_witness": ["network", "before", "sharing"],
        "cut_load": ["network", "loads", "places"]},
    "verdicts": {"check_paper": ["network", "paper"], "decide": ["network"], "Verdict": {"__init__": ["paper"], "calm": None}},
    "cases": {
        "check_case": ["network", "case"], "check_swap": ["network", "swap"], "harm": ["network"], "better": ["network"],
        "Case": {
            "__init__": ["delays", "total", "closed", "before", "after"], "delays": None, "total": None, "closed": None,
            "before": None, "after": None},
        "Swap": {
            "__init__": ["delays", "total", "before", "sharing"], "delays": None, "total": None, "before": None,
            "sharing": None}},
    "extras": {
        "opened": ["network", "extra"], "extra_kind": ["network", "extra"], "extra_harm": ["network", "extra"],
        "pair_table": ["network"]},
    "closings": {"least_closings": ["network"]},
    "books": {"Book": {
        "__init__": ["start", "end"], "order": None, "drop": ["name"], "network": [], "verdict": [], "tried": ["changes"],
        "undo": [], "__getitem__": ["name"], "__setitem__": ["name", "ends"], "__contains__": ["name"], "__len__": []}},
}
ERRORS = {
    "BadName": ["name"], "DuplicateName": ["name"], "UnknownName": ["name"], "BadCount": ["count"], "OutOfRange": ["value"],
    "BadLine": ["number", "text"], "BadText": ["text"], "HasRound": ["name"], "UselessLink": ["name"],
    "BadJoint": ["place"], "BadWay": ["way"], "NoWay": [], "NotBuilding": [], "NoHarm": ["kind"], "NothingToUndo": [],
}


def parameters(node):
    given = [*node.args.args, *([node.args.vararg] if node.args.vararg else [])]
    return [part.arg for part in given if part.arg not in ("self", "cls")]


class Interface(ErrorCase):
    def defined(self, module):
        path = Path(inspect.getfile(extralink)).parent / f"{module}.py"
        body = ast.parse(path.read_text()).body
        return {node.name: node for node in body if isinstance(node, (ast.FunctionDef, ast.ClassDef))}

    def assert_class(self, node, members):
        own = {part.name: part for part in node.body if isinstance(part, ast.FunctionDef)}
        for name, wanted in members.items():
            decorators = [mark.id for mark in own[name].decorator_list]
            if wanted is None:
                self.assertEqual(decorators, ["property"], name)
            else:
                self.assertEqual(parameters(own[name]), wanted, name)
                self.assertIn(decorators, [[], ["classmethod"]])

    def test_every_name_stands_in_its_file(self):
        for module, names in INTERFACE.items():
            found = self.defined(module)
            for name, wanted in names.items():
                if isinstance(wanted, dict):
                    self.assert_class(found[name], wanted)
                else:
                    self.assertEqual(parameters(found[name]), wanted, name)

    def test_errors(self):
        found = self.defined("errors")
        self.assertEqual(set(found), {"ExtralinkError", *ERRORS})
        for name, wanted in ERRORS.items():
            self.assertEqual([base.id for base in found[name].bases], ["ExtralinkError"])
            own = [part for part in found[name].body if isinstance(part, ast.FunctionDef)]
            self.assertEqual([parameters(part) for part in own], [wanted] if wanted else [])
        self.assertTrue(issubclass(ExtralinkError, ValueError))


class Buildings(ErrorCase):
    """Point 8: in a building the time never falls."""

    def time(self, network, delays, total):
        return fraction(standing(building_of(network), delays, total).times[network.end])

    def cases(self, seed, many):
        rng = random.Random(seed)
        for _ in range(many):
            network = some_building(rng).network()
            yield rng, network, some_delays(rng, network), Ratio(rng.randint(1, 9), rng.randint(1, 4))

    def test_if_the_total_grows(self):
        for rng, network, delays, total in self.cases(40, 150):
            more = total + Ratio(rng.randint(0, 6), 5)
            self.assertLessEqual(self.time(network, delays, total), self.time(network, delays, more))

    def test_if_delays_grow(self):
        for rng, network, delays, total in self.cases(41, 150):
            slower = dict(delays)
            for name in rng.sample(network.names, rng.randint(1, len(network))):
                slower[name] = delays[name] + some_line(rng)
                self.assertTrue(slower[name].covers(delays[name]))
            self.assertLessEqual(self.time(network, delays, total), self.time(network, slower, total))
            self.assertTrue(time_line(building_of(network), slower).covers(time_line(building_of(network), delays)))

    def test_if_links_are_closed(self):
        met = 0
        for rng, network, delays, total in self.cases(42, 300):
            closed = tuple(rng.sample(network.names, rng.randint(0, min(3, len(network)))))
            try:
                less = network.without(closed)
            except NoWay:
                continue
            before, after = standing(building_of(network), delays, total), standing(building_of(less), delays, total)
            self.assertLessEqual(fraction(before.times[network.end]), fraction(after.times[network.end]))
            self.assertIs(check_case(network, Case(delays, total, closed, before, after)), False)
            kept = {**dict.fromkeys(network.names, 0), **after.loads}
            self.assertIsNotNone(witness(network, before.loads, kept))
            met += 1
        self.assertGreater(met, 100)

    def test_extra_links(self):
        rng = random.Random(43)
        met = {"along": 0, "across": 0}
        while min(met.values()) < 40:
            network = some_building(rng, 8).network()
            tail, head = rng.sample(network.places, 2)
            kind = pair_table(network)[(tail, head)]
            if kind != "back":
                self.assertEqual(extra_kind(network, [("z", tail, head)]), kind)
                met[kind] += 1
                self.assert_extra(rng, network, ("z", tail, head), kind)

    def assert_extra(self, rng, network, link, kind):
        larger = opened(network, [link])
        if kind == "across":
            self.assertIs(check_case(larger, extra_harm(network, [link])), True)
            self.assertEqual(decide(larger).kind, "bridged")
        elif is_building(larger):
            delays = some_delays(rng, larger)
            self.assertLessEqual(self.time(larger, delays, 2), self.time(network, delays, 2))


class Kinds(ErrorCase):
    """Points 1, 7 and 8: what the kind of a network says."""

    def assert_kind(self, network):
        verdict = decide(network)
        self.assertIs(check_paper(network, verdict.paper), True)
        self.assertEqual(verdict.kind == "bridged", find_pair(network) is not None)
        self.assertEqual(verdict.kind == "bridged", building_of(network) is None)
        self.assertEqual(verdict.kind == "bridged", not is_building(network))
        self.assertEqual(least_closings(network) == [()], verdict.kind != "bridged")
        if verdict.kind == "bridged":
            self.assertIs(check_case(network, harm(network)), True)
        else:
            self.refused(NoHarm(verdict.kind), harm, network)
            self.assertEqual(verdict.kind == "tail", building_of(network).tailed)
        if verdict.kind == "tail":
            self.refused(NoHarm("tail"), better, network)
        else:
            self.assertIs(check_swap(network, better(network)), True)
        return verdict.kind

    def test_small_networks(self):
        kinds = {self.assert_kind(network) for network in small_networks(4, 6, parallel=True)}
        self.assertEqual(kinds, {"tail", "woven", "bridged"})

    def test_large_networks(self):
        rng = random.Random(44)
        for _ in range(60):
            self.assert_kind(some_network(rng, rng.randint(2, 8), 10))


class Values(ErrorCase):
    """Point 9: equal arguments, and objects that are not equal to values of another kind."""

    def test_objects_of_other_classes(self):
        network = Network([("a", "s", "t")], "s", "t")
        building = building_of(network)
        delays = {"a": Line.straight(1)}
        held = standing(building, delays, 1)
        every = [
            network, building, delays["a"], held, Ratio(1), decide(network), Case(delays, 1, ("a",), held, held),
            Swap(delays, 1, held, {("a",): 1}), 1, "a", None, ("a",), {"a": 1}, [],
        ]
        for at, one in enumerate(every):
            for other in every[at + 1:]:
                self.assertIs(one == other, False)
                self.assertIs(other == one, False)

    def test_lists_and_tuples_count_as_equal(self):
        rng = random.Random(45)
        for _ in range(40):
            rows = triples(some_network(rng, 6, 8))
            one, two = Network(rows, "s", "t"), Network(tuple(map(list, rows)), "s", "t")
            self.assertEqual(one, two)
            self.assertEqual(decide(one).paper, decide(two).paper)
            self.assertEqual(least_closings(one), least_closings(two))

    def test_ratios_and_integers_count_as_equal(self):
        rng = random.Random(46)
        for _ in range(40):
            building = some_building(rng)
            network = building.network()
            delays = some_delays(rng, network)
            same = {name: Line(list(line.corners), line.slope) for name, line in reversed(delays.items())}
            self.assertEqual(standing(building, delays, 3), standing(building, {"zz": Line.straight(1), **same}, Ratio(9, 3)))
            self.assertEqual(time_line(building, delays), time_line(building, same))
            sharing = some_sharing(rng, network, 2)
            swaps = [Swap(delays, total, standing(building, delays, 2), sharing) for total in (2, Ratio(2))]
            self.assertEqual(swaps[0].total, swaps[1].total)


if __name__ == "__main__":
    unittest.main()
