"""What the tests of several files use."""

import itertools
import unittest
from fractions import Fraction

from extralink.buildings import Building, chain, fork
from extralink.lines import Line
from extralink.networks import Network
from extralink.ratios import Ratio

WRONG_NAMES = ["", "A", "1", "1a", "aB", "abcdefg", "a b", " a", "a ", "a\n", "\n", "a-b", "a:", ">", "a_b", "s > t"]

FOUR = "s > t\na: s > p\nb: s > q\nc: p > q\nd: p > t\ne: q > t"
TEXTS = [
    "s > t\na: s > t",
    "s > t\na: s > t\nb: s > t\nc: s > t",
    "s > t\na: s > p\nb: p > t",
    "s > t\na: s > p\nb: p > t\nc: s > q\nd: q > t",
    "s > t\na: s > p\nb: s > p\nc: p > t\nd: p > t\ne: s > t",
    FOUR,
    "z > a\nz: z > m\na: m > a\nm: z > a",
    "s > t\na1: s > p\na: s > q\nb: p > q\nab: q > t\nb2: p > t\na0: s > t",
    "s > t\nj: s > p\ni: p > q\nh: q > r\ng: r > t\nf: s > q\ne: q > t\nd: p > r\nc: s > t\nb: s > r\na: p > t",
    "s > t\na: s > u\nb: u > v\nc: v > w\nd: w > x\ne: x > y\nf: y > z\ng: z > t\nh: s > x\ni: v > t\nj: u > z",
]


class ErrorCase(unittest.TestCase):
    def refused(self, expected, function, *arguments, **named):
        """The call raises an error of the very class and with the very arguments of the expected one."""
        with self.assertRaises(expected.__class__) as held:
            function(*arguments, **named)
        self.assertIs(held.exception.__class__, expected.__class__)
        self.assertEqual(vars(held.exception), vars(expected))


def networks():
    return [Network.read(text) for text in TEXTS]


def triples(network):
    return [(name, *network[name]) for name in network.names]


def small_networks(many_places, most_links, parallel=False):
    """Yield networks of so many places, with each choice of links that fits."""
    places = ["s", *"pqruvw"[:many_places - 2], "t"]
    ends = list(itertools.combinations(places, 2))
    choose = itertools.combinations_with_replacement if parallel else itertools.combinations
    for many in range(1, most_links + 1):
        for chosen in choose(ends, many):
            tails, heads = {tail for tail, _ in chosen}, {head for _, head in chosen}
            if tails == set(places[:-1]) and heads == set(places[1:]):
                yield Network([("abcdefghij"[at], *pair) for at, pair in enumerate(chosen)], "s", "t")


def fraction(value):
    return Fraction(value.top, value.bottom) if isinstance(value, Ratio) else Fraction(value)


def ratio(value):
    """The ratio of a text, an integer or a Fraction."""
    if isinstance(value, str):
        return Ratio.read(value)
    return Ratio(value.numerator, value.denominator)


PLACES = "pqruvw"


def splits(many, least_parts=2):
    """All rows of at least so many numbers from 1 on with the sum."""
    if many == 0:
        return [()] if least_parts <= 0 else []
    return [(first, *rest) for first in range(1, many + 1) for rest in splits(many - first, least_parts - 1)]


def plans(many, barred=None):
    """All forms of buildings of so many links; the outermost form is not the barred one."""
    if many == 1:
        return ["link"]
    found = []
    for shape in ["chain", "fork"]:
        for row in splits(many) if shape != barred else []:
            found += [(shape, *parts) for parts in itertools.product(*[plans(size, shape) for size in row])]
    return found


class Maker:
    """Builds forms with names and places taken from two rows."""

    def __init__(self, names, places):
        self.names, self.places = list(names), list(places)

    def build(self, plan, start="s", end="t"):
        if plan == "link":
            return Building.link(self.names.pop(0), start, end)
        if plan[0] == "fork":
            return fork(*[self.build(part, start, end) for part in plan[1:]])
        stops = [start, *[self.places.pop(0) for _ in plan[2:]], end]
        return chain(*[self.build(part, *ends) for part, ends in zip(plan[1:], zip(stops, stops[1:]))])


def read(rows):
    """A network from s to t of links that are written as a name, the tail and the head."""
    return Network([(row[:-2], row[-2], row[-1]) for row in rows.split()], "s", "t")


def some_building(rng, most_links=10):
    """A building of any form that fits, with names and places in any order."""
    many = rng.randint(1, most_links)
    plan = some_plan(rng, many)
    while plan_places(plan) > 6:
        plan = some_plan(rng, many)
    return Maker(rng.sample("abcdefghij", 10), rng.sample(PLACES, 6)).build(plan)


def some_plan(rng, many, barred=None):
    if many == 1:
        return "link"
    shape = {"chain": "fork", "fork": "chain"}.get(barred) or rng.choice(["chain", "fork"])
    cuts = [0, *sorted(rng.sample(range(1, many), rng.randint(1, many - 1))), many]
    return (shape, *[some_plan(rng, high - low, shape) for low, high in zip(cuts, cuts[1:])])


def plan_places(plan):
    """How many inner places a form has."""
    if plan == "link":
        return 0
    return sum(map(plan_places, plan[1:])) + (len(plan) - 2 if plan[0] == "chain" else 0)


def some_network(rng, many_places, many_links):
    """A network of so many links between at most so many places."""
    places = ["s", *PLACES[:many_places - 2], "t"]
    while True:
        ends = [sorted(rng.sample(range(many_places), 2)) for _ in range(many_links)]
        names = rng.sample("abcdefghij", many_links)
        try:
            return Network([(name, places[low], places[high]) for name, (low, high) in zip(names, ends)], "s", "t")
        except ValueError:
            continue


def some_line(rng):
    """A delay: flat, steep, or broken with flat and steep pieces."""
    many = rng.choice([1, 1, 2, 3])
    loads = [0, *sorted(rng.sample(range(1, 9), many - 1))]
    times = sorted(rng.choice([0, 0, 1, 2, 3, 5, 7, 40]) for _ in loads)
    return Line([(Ratio(load, 2), time) for load, time in zip(loads, times)], rng.choice([0, 0, 1, Ratio(1, 3), 4]))


def some_delays(rng, network):
    return {name: some_line(rng) for name in network.names}


def some_sharing(rng, network, total=None):
    """Loads for some ways, with some loads of 0; their sum is the total, if there is one."""
    ways = every_way(network)
    used = rng.sample(ways, rng.randint(1, len(ways)))
    sharing = {way: Ratio(rng.randint(0, 4), rng.randint(1, 3)) for way in used}
    if total is not None:
        sharing[used[0]] = Ratio(1)
        borne = sum(sharing.values(), start=Ratio(0))
        sharing = {way: (load * total).over(borne) for way, load in sharing.items()}
    return sharing


def every_way(network):
    """All ways of a network, in any order."""
    found, fresh = [], [((), network.start)]
    while fresh:
        found += [way for way, place in fresh if place == network.end]
        fresh = [
            ((*way, name), head) for way, place in fresh
            for name, tail, head in triples(network) if tail == place
        ]
    return found


def line_time(line, load):
    """The time of a line at a load, reckoned from its corners."""
    load = fraction(load)
    corners = [(fraction(at), fraction(time)) for at, time in line.corners]
    for (low, first), (high, last) in zip(corners, corners[1:]):
        if load < high:
            return first + (last - first) * (load - low) / (high - low)
    return corners[-1][1] + fraction(line.slope) * (load - corners[-1][0])


def is_sharing_of(network, total, loads):
    """Whether the loads are those of a sharing with this total: ways are taken off until nothing is left."""
    left = {name: fraction(load) for name, load in loads.items()}
    total = fraction(total)
    if min(left.values()) < 0:
        return False
    for way in every_way(network):
        share = min(left[name] for name in way)
        total -= share
        for name in way:
            left[name] -= share
    return total == 0 and set(left.values()) == {0}


def is_standing(network, delays, total, standing):
    """Points 6 and 40, reckoned apart from the program."""
    loads, times = standing.loads, standing.times
    if set(loads) != set(network.names) or set(times) != set(network.places) or fraction(total) <= 0:
        return False
    if not is_sharing_of(network, total, loads) or fraction(times[network.start]) != 0:
        return False
    for name, tail, head in triples(network):
        there = fraction(times[tail]) + line_time(delays[name], loads[name])
        if fraction(times[head]) > there or (fraction(loads[name]) > 0 and fraction(times[head]) != there):
            return False
    return True


def reduces(links, start, end):
    """Whether links are a building: those side by side and those in a row are made one, again and again."""
    rows = set(links)
    joined = True
    while joined:
        joined = False
        for place in sorted({place for row in rows for place in row} - {start, end}):
            into = [row for row in rows if row[1] == place]
            out = [row for row in rows if row[0] == place]
            if len(into) == len(out) == 1:
                rows = {*rows, (into[0][0], out[0][1])} - {into[0], out[0]}
                joined = True
    return rows == {(start, end)}


def is_building(network):
    return reduces([network[name] for name in network.names], network.start, network.end)
