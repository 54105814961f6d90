"""Bridged pairs: points 9, 36 and 37."""

import itertools
import unittest

from extralink.buildings import building_of
from extralink.networks import Network
from extralink.pairs import check_pair, find_pair
from tests.helper import ErrorCase, FOUR, WRONG_NAMES, networks, read, small_networks, triples

PAIR = ((), ("a",), ("d",), ("b",), ("e",), ("c",), ())
PARTS = ["lead", "cx", "xm", "cv", "vm", "xv", "rest"]


def pair_of(text):
    """Seven tuples that are written as letters with a point for an empty one."""
    return tuple(tuple(word.strip(".")) for word in text.split())


def with_part(pair, part, names):
    at = PARTS.index(part)
    return (*pair[:at], tuple(names), *pair[at + 1:])


# A network and a bridged pair of it.
KNOWN = [
    (Network.read(FOUR), PAIR),
    (read("asp bsq cpq dpt eqt fst"), pair_of(". a d b e c .")),
    (read("lsc ecp fcq gpm hqm ipq rmt"), pair_of("l e g f h i r")),
    (read("ksu luc ecp fcq gpm hqm ipq rmt"), pair_of("kl e g f h i r")),
    (read("ecp fcq gpm hqm ipq kmu rut lsc"), pair_of("l e g f h i kr")),
    (read("aso bop csq dpt eqt fpq"), pair_of(". ab d c e f .")),
    (read("asp bpo cot dsq eqt fpq"), pair_of(". a bc d e f .")),
    (read("asp bpt cso doq eqt fpq"), pair_of(". a b cd e f .")),
    (read("asp bpt csq dqo eot fpq"), pair_of(". a b c de f .")),
    (read("asp bpt csq dqt epo foq"), pair_of(". a b c d ef .")),
    (read("asp bpt csq dqt epo fou guq"), pair_of(". a b c d efg .")),
    (read("asu bup cpv dvt esw fwq gqt hpq"), pair_of(". ab cd ef g h .")),
    (read("asc bcp ecq fpu gum hqm ipv jvq kmt"), pair_of("a b fg e h ij k")),
    (read("asp bsp cpt dpt esq fsq gqt hqt ipq jpq"), pair_of(". a c e g i .")),
]


def stops(network, names):
    """The places of some links, or None if they cannot be followed."""
    if any(name not in network for name in names):
        return None
    for one, two in zip(names, names[1:]):
        if network[one][1] != network[two][0]:
            return None
    return [network[names[0]][0], *[network[name][1] for name in names]] if names else []


def is_pair(network, pair):
    """The words of the document, for the only four places that the ends of the parts allow."""
    rows = [stops(network, names) for names in pair]
    if None in rows or [] in rows[1:6]:
        return False
    four = (rows[1][0], rows[1][-1], rows[3][-1], rows[2][-1])
    return len(set(four)) == 4 and fits(network, rows, *four)


def fits(network, rows, c, x, v, m):
    lead, *inner, rest = rows
    ends = [(row[0], row[-1]) for row in inner]
    if ends != [(c, x), (x, m), (c, v), (v, m), (x, v)]:
        return False
    if (lead[0], lead[-1]) != (network.start, c) if lead else c != network.start:
        return False
    if (rest[0], rest[-1]) != (m, network.end) if rest else m != network.end:
        return False
    for at, row in enumerate(rows):
        others = [place for other in rows[:at] + rows[at + 1:] for place in other]
        if any(place in (c, x, v, m) or place in others for place in row[1:-1]):
            return False
    return True


def walks_between(network):
    """All tuples of links that can be followed, and the empty one."""
    found, fresh = [()], [(name,) for name in network.names]
    while fresh:
        found += fresh
        fresh = [(*names, name) for names in fresh for name in network.names if stops(network, (*names, name))]
    return found


class Check(ErrorCase):
    def test_known_pairs(self):
        for network, pair in KNOWN:
            self.assertIs(check_pair(network, pair), True, pair)
            self.assertTrue(is_pair(network, pair))

    def test_arguments_by_name(self):
        self.assertIs(check_pair(pair=PAIR, network=Network.read(FOUR)), True)
        self.assertIs(check_pair(pair=PAIR[::-1], network=Network.read(FOUR)), False)

    def test_links_beside_each_other_stand_for_each_other(self):
        network, pair = KNOWN[-1]
        others = {"a": "b", "c": "d", "e": "f", "g": "h", "i": "j"}
        for part, names in zip(PARTS, pair):
            if names:
                self.assertIs(check_pair(network, with_part(pair, part, others[names[0]])), True)

    def test_an_empty_part_where_there_must_be_links(self):
        for network, pair in KNOWN:
            for part in PARTS[1:6]:
                self.assertIs(check_pair(network, with_part(pair, part, ())), False)
        self.assertIs(check_pair(Network.read(FOUR), ((),) * 7), False)

    def test_strange_names(self):
        for network, pair in KNOWN:
            for part, names in zip(PARTS, pair):
                for wrong in ["s", "p", "zz", "aa", *WRONG_NAMES]:
                    self.assertIs(check_pair(network, with_part(pair, part, (*names, wrong))), False)
                    self.assertIs(check_pair(network, with_part(pair, part, (wrong, *names))), False)
                    self.assertIs(check_pair(network, with_part(pair, part, (wrong,))), False)

    def test_links_that_cannot_be_followed(self):
        for network, pair in KNOWN:
            for part, names in zip(PARTS, pair):
                for wrong in [names[::-1], names + names, names[1:], names[:-1], names[:1] + names[2:]]:
                    if wrong != names:
                        self.assertIs(check_pair(network, with_part(pair, part, wrong)), False)

    def test_lead(self):
        network = read("lsc osc ecp fcq gpm hqm ipq rmt")
        pair = pair_of("l e g f h i r")
        self.assertIs(check_pair(network, pair), True)
        self.assertIs(check_pair(network, with_part(pair, "lead", "o")), True)
        for wrong in ["", "e", "lo", "le", "r", "f"]:
            self.assertIs(check_pair(network, with_part(pair, "lead", wrong)), False)

    def test_lead_that_does_not_begin_at_the_start(self):
        network = read("ksu luc ecp fcq gpm hqm ipq rmt")
        for lead, expected in [("kl", True), ("l", False), ("k", False), ("", False)]:
            self.assertIs(check_pair(network, pair_of(f"{lead or '.'} e g f h i r")), expected)

    def test_rest(self):
        network = read("ecp fcq gpm hqm ipq kmu rut omt lsc")
        pair = pair_of("l e g f h i kr")
        for rest, expected in [("kr", True), ("o", True), ("k", False), ("r", False), ("", False), ("or", False), ("g", False)]:
            self.assertIs(check_pair(network, with_part(pair, "rest", rest)), expected)

    def test_rest_and_lead_beside_an_end_that_is_none(self):
        network = Network.read(FOUR)
        for names in ["a", "c", "e", "ad"]:
            self.assertIs(check_pair(network, with_part(PAIR, "lead", names)), False)
            self.assertIs(check_pair(network, with_part(PAIR, "rest", names)), False)

    def test_the_bridge_the_other_way(self):
        network = Network.read(FOUR)
        self.assertIs(check_pair(network, pair_of(". b e a d c .")), False)
        self.assertIs(check_pair(network, PAIR[::-1]), False)

    def test_every_order_of_the_parts(self):
        network = Network.read(FOUR)
        for order in itertools.permutations(PAIR[1:6]):
            self.assertIs(check_pair(network, ((), *order, ())), order == PAIR[1:6])

    def test_four_places_that_differ(self):
        network = read("asp bpt cst dsp ept")
        for words in [". a b a b a .", ". a b d e a .", ". a b c c a .", ". c c c c c .", ". a b d e . ."]:
            self.assertIs(check_pair(network, pair_of(words)), False)

    def test_ways_that_share_a_place(self):
        network = read("asp bpq cpr dqt ert fqr")
        self.assertIs(check_pair(network, pair_of("a b d c e f .")), True)
        self.assertIs(check_pair(network, pair_of(". ab d ac e f .")), False)
        network = read("asp bsq cpr dqr ert fpq")
        self.assertIs(check_pair(network, pair_of(". a c b d f e")), True)
        self.assertIs(check_pair(network, pair_of(". a ce b de f .")), False)

    def test_inner_places_on_other_parts(self):
        # o is between x and m, or between x and v, or between v and m.
        network = read("asp bpo cot dsq eqt fpq goq")
        self.assertIs(check_pair(network, pair_of(". a bc d e f .")), True)
        self.assertIs(check_pair(network, pair_of(". ab c d e g .")), True)
        self.assertIs(check_pair(network, pair_of(". a bc d e bg .")), False)
        network = read("asp bpt cso doq eqt fpq gpo")
        self.assertIs(check_pair(network, pair_of(". a b c de g .")), True)
        self.assertIs(check_pair(network, pair_of(". a b cd e f .")), True)
        self.assertIs(check_pair(network, pair_of(". a b cd e gd .")), False)

    def test_a_bridge_over_one_of_the_four_places(self):
        network = read("asp bpt csq dqt epo foq gst")
        self.assertIs(check_pair(network, pair_of(". a b c d ef .")), True)
        self.assertIs(check_pair(network, pair_of(". a b aef d ef .")), False)
        self.assertIs(check_pair(network, pair_of(". a efd c d ef .")), False)
        self.assertIs(check_pair(network, pair_of(". a b c d aef .")), False)

    def test_more_or_fewer_parts(self):
        network = Network.read(FOUR)
        self.assertIs(check_pair(network, PAIR[:6]), False)
        self.assertIs(check_pair(network, (*PAIR, ())), False)

    def test_networks_without_a_pair(self):
        network = read("asp bsp cpt dpt est")
        choices = walks_between(network)
        for part in itertools.product([("a",), ("b",), ("c",), ("e",), ("a", "c")], repeat=5):
            self.assertIs(check_pair(network, ((), *part, ())), False)
        self.assertEqual(len(choices), 10)

    def test_every_choice_for_two_parts(self):
        for network, pair in KNOWN[:6]:
            choices = walks_between(network)
            for one, two in itertools.combinations(PARTS, 2):
                for names, more in itertools.product(choices, repeat=2):
                    other = with_part(with_part(pair, one, names), two, more)
                    self.assertIs(check_pair(network, other), is_pair(network, other), other)

    def test_every_choice_for_one_part(self):
        for network, pair in KNOWN:
            for part in PARTS:
                for names in walks_between(network):
                    other = with_part(pair, part, names)
                    self.assertIs(check_pair(network, other), is_pair(network, other), other)


class Find(ErrorCase):
    def assert_right(self, network):
        pair = find_pair(network)
        if building_of(network) is not None:
            self.assertIsNone(pair)
            return
        self.assertIs(pair.__class__, tuple)
        self.assertEqual(len(pair), 7)
        for names in pair:
            self.assertIs(names.__class__, tuple)
        self.assertIs(check_pair(network, pair), True)
        self.assertTrue(is_pair(network, pair))

    def test_known_networks(self):
        for network, _ in KNOWN:
            self.assertIsNotNone(find_pair(network))
            self.assert_right(network)

    def test_those_of_the_helper(self):
        for network in networks():
            self.assert_right(network)

    def test_small_networks(self):
        for many, most in [(2, 4), (3, 5), (4, 6)]:
            for network in small_networks(many, most, parallel=True):
                self.assert_right(network)
        for network in small_networks(5, 10):
            self.assert_right(network)

    def test_networks_of_six_places(self):
        for network in list(small_networks(6, 8))[::3]:
            self.assert_right(network)

    def test_a_pair_that_is_the_only_one(self):
        for network, pair in KNOWN[:1] + KNOWN[2:13]:
            self.assertEqual(find_pair(network), pair)

    def test_largest(self):
        rows = "asp bpq cqr dru euv fvw gwt " + "hpu irv jsq"
        self.assert_right(read(rows))
        self.assert_right(read("asp bpq csq dqr eru fqu guv hvw iut jwt"))
        self.assert_right(read("asp bsp cpq dpq eqr fqr gru hru iut jut"))

    def test_the_same_one_for_equal_networks(self):
        for network in [KNOWN[1][0], KNOWN[5][0], networks()[7]]:
            for order in itertools.islice(itertools.permutations(triples(network)), 0, None, 7):
                other = Network(order, network.start, network.end)
                self.assertEqual(find_pair(other), find_pair(network))

    def test_twice(self):
        for network, _ in KNOWN:
            self.assertEqual(find_pair(network), find_pair(network))
            self.assertEqual(find_pair(network=network), find_pair(network))


class Examples(ErrorCase):
    def test_a_pair(self):
        network = Network.read("s > t\na: s > p\nb: s > q\nc: p > q\nd: p > t\ne: q > t")
        pair = ((), ("a",), ("d",), ("b",), ("e",), ("c",), ())
        told = [find_pair(network) == pair, check_pair(network, pair), check_pair(network, pair[::-1])]
        self.assertEqual(told, [True, True, False])

    def test_none(self):
        self.assertIs(find_pair(Network.read("s > t\na: s > p\nb: s > p\nc: p > t")) is None, True)


if __name__ == "__main__":
    unittest.main()
