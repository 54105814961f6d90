"""What the tests of several files use."""

import itertools
import unittest
from fractions import Fraction

from extralink.networks import Network
from extralink.ratios import Ratio

WRONG_NAMES = ["", "A", "1", "1a", "aB", "abcdefg", "a b", " a", "a ", "a\n", "\n", "a-b", "a:", ">", "a_b", "s > t"]

FOUR = "s > t\na: s > p\nb: s > q\nc: p > q\nd: p > t\ne: q > t"
TEXTS = [
    "s > t\na: s > t",
    "s > t\na: s > t\nb: s > t\nc: s > t",
    "s > t\na: s > p\nb: p > t",
    "s > t\na: s > p\nb: p > t\nc: s > q\nd: q > t",
    "s > t\na: s > p\nb: s > p\nc: p > t\nd: p > t\ne: s > t",
    FOUR,
    "z > a\nz: z > m\na: m > a\nm: z > a",
    "s > t\na1: s > p\na: s > q\nb: p > q\nab: q > t\nb2: p > t\na0: s > t",
    "s > t\nj: s > p\ni: p > q\nh: q > r\ng: r > t\nf: s > q\ne: q > t\nd: p > r\nc: s > t\nb: s > r\na: p > t",
    "s > t\na: s > u\nb: u > v\nc: v > w\nd: w > x\ne: x > y\nf: y > z\ng: z > t\nh: s > x\ni: v > t\nj: u > z",
]


class ErrorCase(unittest.TestCase):
    def refused(self, expected, function, *arguments, **named):
        """The call raises an error of the very class and with the very arguments of the expected one."""
        with self.assertRaises(expected.__class__) as held:
            function(*arguments, **named)
        self.assertIs(held.exception.__class__, expected.__class__)
        self.assertEqual(vars(held.exception), vars(expected))


def networks():
    return [Network.read(text) for text in TEXTS]


def triples(network):
    return [(name, *network[name]) for name in network.names]


def small_networks(many_places, most_links, parallel=False):
    """Yield networks of so many places, with each choice of links that fits."""
    places = ["s", *"pqruvw"[:many_places - 2], "t"]
    ends = list(itertools.combinations(places, 2))
    choose = itertools.combinations_with_replacement if parallel else itertools.combinations
    for many in range(1, most_links + 1):
        for chosen in choose(ends, many):
            tails, heads = {tail for tail, _ in chosen}, {head for _, head in chosen}
            if tails == set(places[:-1]) and heads == set(places[1:]):
                yield Network([("abcdefghij"[at], *pair) for at, pair in enumerate(chosen)], "s", "t")


def fraction(value):
    return Fraction(value.top, value.bottom) if isinstance(value, Ratio) else Fraction(value)


def ratio(value):
    """The ratio of a text, an integer or a Fraction."""
    if isinstance(value, str):
        return Ratio.read(value)
    return Ratio(value.numerator, value.denominator)
