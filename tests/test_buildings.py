"""Buildings, how they are joined and what they tell: points 7, 9, 10, 30 to 34."""

import itertools
import unittest

from extralink.buildings import Building, chain, fork
from extralink.errors import BadCount, BadJoint, BadName, DuplicateName
from extralink.lines import Line
from extralink.networks import Network
from extralink.ratios import Ratio
from tests.helper import WRONG_NAMES, ErrorCase

link = Building.link


def plus(one, two):
    return one + two


def beside(one, two):
    return one | two


def links(text):
    """A chain of links, each written as a name, the tail and the head: "a:sp b:pt"."""
    return chain(*[link(word[:-3], word[-2], word[-1]) for word in text.split()])


class Links(ErrorCase):
    def test_what_it_tells(self):
        one = link("a1", "start", "end99")
        self.assertIs(one.__class__, Building)
        self.assertEqual((one.shape, one.start, one.end), ("link", "start", "end99"))
        self.assertEqual((one.names, one.places, one.parts), (("a1",), ("start", "end99"), ()))
        self.assertIs(one.tailed, True)
        self.assertEqual(str(one), "a1")
        self.assertEqual(one.network(), Network([("a1", "start", "end99")], "start", "end99"))

    def test_a_link_and_a_place_may_have_one_name(self):
        self.assertEqual(link("s", "s", "t").names, ("s",))
        self.assertEqual(link("t", "s", "t").places, ("s", "t"))

    def test_arguments_by_name(self):
        self.assertEqual(link(head="t", name="a", tail="s"), link("a", "s", "t"))

    def test_bad_names(self):
        for wrong in WRONG_NAMES:
            self.refused(BadName(wrong), link, wrong, "s", "t")
            self.refused(BadName(wrong), link, "a", wrong, "t")
            self.refused(BadName(wrong), link, "a", "s", wrong)

    def test_order_of_the_errors(self):
        self.refused(BadName("A"), link, "A", "S", "T")
        self.refused(BadName("S"), link, "a", "S", "T")
        self.refused(BadName("T"), link, "a", "s", "T")
        self.refused(BadName("A"), link, "A", "s", "s")
        self.refused(BadName("S"), link, "a", "S", "S")

    def test_head_that_equals_the_tail(self):
        for place in ["s", "t", "p9"]:
            self.refused(DuplicateName(place), link, "a", place, place)


class Chains(ErrorCase):
    def test_two_links(self):
        both = link("b", "s", "p") + link("a", "p", "t")
        self.assertEqual((both.shape, both.start, both.end), ("chain", "s", "t"))
        self.assertEqual((both.names, both.places), (("a", "b"), ("s", "p", "t")))
        self.assertEqual(both.parts, (link("b", "s", "p"), link("a", "p", "t")))
        self.assertEqual(str(both), "b + a")

    def test_joint(self):
        self.refused(BadJoint("p"), plus, link("a", "s", "p"), link("b", "q", "t"))
        self.refused(BadJoint("t"), plus, link("a", "s", "t"), link("b", "s", "t"))
        self.refused(BadJoint("t"), plus, links("a:sp b:pt"), links("c:pq d:qt"))

    def test_joint_first(self):
        self.refused(BadJoint("t"), plus, link("a", "s", "t"), link("a", "s", "t"))
        self.refused(BadJoint("g"), plus, links("a:sb b:bc c:cd d:de e:ef f:fg"), links("h:sb i:bc j:cd k:de l:ef"))

    def test_names_that_both_have(self):
        self.refused(DuplicateName("a"), plus, link("a", "s", "p"), link("a", "p", "t"))
        self.refused(DuplicateName("b"), plus, links("c:sp b:pq d:qr"), links("d:ru c:uv b:vt"))
        self.refused(DuplicateName("b10"), plus, links("b2:sp b10:pq"), links("b2:qr b10:rt"))

    def test_names_before_places(self):
        self.refused(DuplicateName("x"), plus, links("a:sp x:pq"), links("x:qp b:pt"))
        self.refused(DuplicateName("z"), plus, link("z", "s", "t"), link("z", "t", "s"))

    def test_places_that_both_have(self):
        self.refused(DuplicateName("p"), plus, links("a:sp b:pq"), links("c:qp d:pt"))
        self.refused(DuplicateName("s"), plus, link("a", "s", "t"), link("b", "t", "s"))
        self.refused(DuplicateName("p"), plus, links("a:sp b:pt"), links("c:tq d:qp"))
        self.refused(DuplicateName("b"), plus, links("a:sc b:cb c:ba d:at"), links("e:tz f:zc g:cb"))
        self.refused(DuplicateName("b"), plus, links("a:zb b:bt"), links("c:tz d:zb"))

    def test_the_start_is_among_the_places(self):
        self.refused(DuplicateName("a"), plus, links("x:ab y:bt"), links("c:tb d:ba"))

    def test_places_before_counts(self):
        self.refused(DuplicateName("b"), plus, links("a:sb b:bc c:cd d:de e:ef f:fg"), links("h:gb i:bt j:tu k:uv l:vw"))

    def test_too_many_links(self):
        five = fork(*[link("a" + str(at), "s", "p") for at in range(5)])
        six = fork(*[link("b" + str(at), "p", "t") for at in range(6)])
        ten = fork(*[link("c" + str(at), "p", "t") for at in range(10)])
        self.refused(BadCount(11), plus, five, six)
        self.refused(BadCount(15), plus, five, ten)
        self.assertEqual(len((five + fork(*six.parts[:5])).names), 10)

    def test_links_before_places(self):
        self.refused(BadCount(11), plus, links("a:sb b:bc c:cd d:de"), links("e:ef f:fg g:gh") | fork(
            link("i", "e", "h"), link("j", "e", "h"), link("k", "e", "h"), link("l", "e", "h")))
        seven = links("a:sb b:bc c:cd d:de e:ef f:fg g:gt")
        self.refused(BadCount(11), plus, seven, links("h:tu i:uv j:vw k:wx"))

    def test_too_many_places(self):
        seven = links("a:sb b:bc c:cd d:de e:ef f:fg g:gt")
        self.assertEqual(len(seven.places), 8)
        self.refused(BadCount(9), plus, seven, link("h", "t", "u"))
        self.refused(BadCount(10), plus, seven, links("h:tu i:uv"))
        self.refused(BadCount(9), plus, links("a:sb b:bc c:cd"), links("d:de e:ef f:fg g:gh h:ht"))

    def test_ten_links_and_eight_places(self):
        two = [links("a:sb b:bc c:cd d:de") | link("e", "s", "e"), links("f:ef g:fg h:gt") | fork(
            link("i", "e", "t"), link("j", "e", "t"))]
        both = two[0] + two[1]
        self.assertEqual((len(both.names), len(both.places)), (10, 8))

    def test_chains_of_chains_have_one_row_of_parts(self):
        parts = [link("d", "s", "p"), link("c", "p", "q"), link("b", "q", "r"), link("a", "r", "t")]
        one, two, three, four = parts
        every = [((one + two) + three) + four, one + (two + (three + four)), (one + two) + (three + four),
                 one + (two + three) + four, chain(*parts), chain(one + two, three + four)]
        for whole in every:
            self.assertEqual(whole.parts, tuple(parts))
            self.assertEqual(str(whole), "d + c + b + a")
            self.assertEqual(whole, every[0])
            self.assertEqual(whole.places, ("s", "p", "q", "r", "t"))


class Forks(ErrorCase):
    def test_two_links(self):
        both = link("b", "s", "t") | link("a", "s", "t")
        self.assertEqual((both.shape, both.start, both.end), ("fork", "s", "t"))
        self.assertEqual((both.names, both.places), (("a", "b"), ("s", "t")))
        self.assertEqual(both.parts, (link("a", "s", "t"), link("b", "s", "t")))
        self.assertEqual(str(both), "a | b")

    def test_joints(self):
        self.refused(BadJoint("s"), beside, link("a", "s", "t"), link("b", "p", "t"))
        self.refused(BadJoint("t"), beside, link("a", "s", "t"), link("b", "s", "p"))
        self.refused(BadJoint("s"), beside, link("a", "s", "t"), link("b", "t", "s"))
        self.refused(BadJoint("s"), beside, link("a", "s", "t"), link("b", "u", "v"))
        self.refused(BadJoint("t"), beside, links("a:sp b:pt"), links("c:sp d:pq"))

    def test_joints_first(self):
        self.refused(BadJoint("s"), beside, link("a", "s", "t"), link("a", "p", "q"))
        self.refused(BadJoint("t"), beside, link("a", "s", "t"), link("a", "s", "q"))

    def test_names_that_both_have(self):
        self.refused(DuplicateName("a"), beside, link("a", "s", "t"), link("a", "s", "t"))
        self.refused(DuplicateName("b"), beside, links("d:sp c:pq b:qt"), links("b:su c:uv a:vt"))

    def test_names_before_places(self):
        self.refused(DuplicateName("b"), beside, links("a:sp b:pt"), links("c:sp b:pt"))

    def test_places_that_both_have(self):
        self.refused(DuplicateName("p"), beside, links("a:sp b:pt"), links("c:sp d:pt"))
        self.refused(DuplicateName("b"), beside, links("a:sc b:cb c:ba d:at"), links("e:sz f:zc g:cb h:bt"))
        self.refused(DuplicateName("x"), beside, links("a:az b:zx c:xb"), links("d:ax e:xz f:zb"))

    def test_places_before_counts(self):
        many = fork(*[link("a" + str(at), "s", "t") for at in range(9)])
        self.refused(DuplicateName("p"), beside, links("y:sp z:pt"), links("b:sp c:pq d:qr e:ru f:uv g:vw h:wt"))
        self.refused(BadCount(11), beside, many, links("b:sp c:pt"))

    def test_too_many_links(self):
        five = fork(*[link("a" + str(at), "s", "t") for at in range(5)])
        six = fork(*[link("b" + str(at), "s", "t") for at in range(6)])
        self.refused(BadCount(11), beside, five, six)
        self.refused(BadCount(11), beside, six, five)
        self.assertEqual(len((five | fork(*six.parts[1:])).names), 10)

    def test_links_before_places(self):
        self.refused(BadCount(11), beside, links("a:sb b:bc c:cd d:de e:et"), links("f:sf g:fg h:gh i:hi j:ij k:jt"))

    def test_too_many_places(self):
        self.refused(BadCount(9), beside, links("a:sb b:bc c:cd d:de e:et"), links("f:sf g:fg h:gh i:ht"))
        self.refused(BadCount(10), beside, links("a:sb b:bc c:cd d:de e:et"), links("f:sf g:fg h:gh i:hi j:it"))
        both = links("a:sb b:bc c:cd d:dt") | links("f:sf g:fg h:gh i:ht")
        self.assertEqual((both.places, len(both.names)), (("s", "b", "c", "d", "f", "g", "h", "t"), 8))

    def test_forks_of_forks_have_one_row_of_branches(self):
        parts = [links("d:sp a:pt"), link("b", "s", "t"), links("e:sq c:qt"), link("f", "s", "t")]
        for one, two, three, four in itertools.permutations(parts):
            every = [((one | two) | three) | four, one | (two | (three | four)), (one | two) | (three | four),
                     fork(one, two, three, four), fork(one | two, three | four)]
            for whole in every:
                self.assertEqual(whole.parts, tuple(parts))
                self.assertEqual(str(whole), "d + a | b | e + c | f")
                self.assertEqual(whole, every[0])
                self.assertEqual(whole.places, ("s", "p", "q", "t"))

    def test_branches_in_the_order_of_their_least_names(self):
        whole = links("z:sp a10:pt") | link("a2", "s", "t") | links("y:sq a1:qt")
        self.assertEqual(str(whole), "y + a1 | z + a10 | a2")


class Rows(ErrorCase):
    def test_chain_and_fork_of_one(self):
        for one in [link("a", "s", "t"), links("a:sp b:pt"), link("a", "s", "t") | link("b", "s", "t")]:
            self.assertEqual(chain(one), one)
            self.assertEqual(fork(one), one)

    def test_none(self):
        self.refused(BadCount(0), chain)
        self.refused(BadCount(0), fork)

    def test_the_first_error_of_a_step(self):
        self.refused(BadJoint("p"), chain, link("a", "s", "p"), link("b", "q", "t"), link("a", "t", "u"))
        self.refused(BadJoint("q"), chain, link("a", "s", "p"), link("b", "p", "q"), link("a", "r", "p"))
        self.refused(DuplicateName("a"), chain, link("a", "s", "p"), link("b", "p", "q"), link("a", "q", "s"))
        self.refused(DuplicateName("s"), chain, link("a", "s", "p"), link("b", "p", "q"), link("c", "q", "s"))
        self.refused(BadJoint("t"), fork, link("a", "s", "t"), link("b", "s", "p"), link("a", "s", "t"))
        self.refused(DuplicateName("b"), fork, *[link(name, "s", "t") for name in "abcb"], link("a", "s", "t"))

    def test_counts_of_a_step(self):
        row = [link(tail, tail, head) for tail, head in zip("sabcdefghijkl", "abcdefghijklt")]
        self.refused(BadCount(9), chain, *row)
        self.assertEqual(chain(*row[:7]).places, tuple("sabcdefg"))
        self.refused(BadCount(11), fork, *[link("a" + str(at), "s", "t") for at in range(13)])
        self.assertEqual(len(fork(*[link("a" + str(at), "s", "t") for at in range(10)]).parts), 10)


class Properties(ErrorCase):
    def test_parts_within_parts(self):
        inner = link("c", "p", "t") | links("d:pq b:qt")
        whole = link("a", "s", "p") + inner
        self.assertEqual(whole.parts, (link("a", "s", "p"), inner))
        self.assertEqual(whole.parts[1].parts, (links("d:pq b:qt"), link("c", "p", "t")))
        self.assertEqual(whole.parts[1].parts[0].parts, (link("d", "p", "q"), link("b", "q", "t")))
        self.assertEqual([part.shape for part in whole.parts], ["link", "fork"])

    def test_kinds(self):
        for whole in [link("a", "s", "t"), links("a:sp b:pt"), link("a", "s", "t") | link("b", "s", "t")]:
            for value in [whole.parts, whole.names, whole.places]:
                self.assertIs(value.__class__, tuple)

    def test_places_in_order(self):
        whole = links("a:zy b:yx") | links("c:zw d:wb e:bx") | link("f", "z", "x")
        self.assertEqual(whole.places, ("z", "b", "w", "y", "x"))
        self.assertEqual(links("a:ta b:as").places, ("t", "a", "s"))

    def test_names_in_order(self):
        whole = chain(link("b", "s", "p"), link("a10", "p", "q"), link("a2", "q", "t"))
        self.assertEqual(whole.names, ("a10", "a2", "b"))

    def test_tailed(self):
        two, three = link("a", "s", "p") | link("b", "s", "p"), link("c", "p", "q") | link("d", "p", "q")
        self.assertIs(two.tailed, True)
        self.assertIs((two + link("e", "p", "t")).tailed, True)
        self.assertIs((link("e", "t", "s") + two + link("f", "p", "u")).tailed, True)
        self.assertIs((two + three).tailed, False)
        self.assertIs((two + link("e", "p", "r") + link("f", "r", "t")).tailed, True)
        far = link("c", "r", "q") | link("d", "r", "q")
        self.assertIs((two + link("e", "p", "r") + far).tailed, False)
        self.assertIs((two + (links("c:pu f:uq") | link("d", "p", "q"))).tailed, False)

    def test_tailed_within(self):
        two, three = link("a", "s", "p") | link("b", "s", "p"), link("c", "p", "q") | link("d", "p", "q")
        woven = two + three
        self.assertIs((woven | link("e", "s", "q")).tailed, False)
        self.assertIs(((woven | link("e", "s", "q")) + link("f", "q", "t")).tailed, False)
        tailed = two + link("c", "p", "q")
        self.assertIs((tailed | link("e", "s", "q")).tailed, True)
        self.assertIs(((tailed | link("e", "s", "q")) + link("f", "q", "t")).tailed, True)
        self.assertIs((link("z", "y", "s") + (tailed | link("e", "s", "q")) + link("f", "q", "t")).tailed, True)
        self.assertIs(links("a:sp b:pq c:qt").tailed, True)

    def test_tailed_forks_of_chains(self):
        two = links("a:sp b:pt") | links("c:sq d:qt")
        self.assertIs(two.tailed, True)
        self.assertIs((two + link("e", "t", "u")).tailed, True)
        self.assertIs((two | links("e:sr f:rt") | link("g", "s", "t")).tailed, True)

    def test_properties_cannot_be_set(self):
        whole = links("a:sp b:pt")
        for word in ["shape", "start", "end", "names", "places", "parts", "tailed"]:
            with self.assertRaises(AttributeError):
                setattr(whole, word, "x")
        self.assertEqual(whole, links("a:sp b:pt"))

    def test_joined_buildings_stay(self):
        one, two = links("b:sp a:pt"), links("d:sq c:qt")
        three = link("e", "t", "u")
        (one | two) + three
        self.assertEqual((str(one), str(two), str(three)), ("b + a", "d + c", "e"))
        self.assertEqual((one.names, one.places, one.parts), (("a", "b"), ("s", "p", "t"), links("b:sp a:pt").parts))

    def test_refused_calls_change_nothing(self):
        one, two = links("b:sp a:pt"), links("d:sp c:pt")
        self.assertRaises(DuplicateName, beside, one, two)
        self.assertRaises(BadJoint, plus, one, two)
        self.assertEqual((one, two), (links("b:sp a:pt"), links("d:sp c:pt")))


class Equality(ErrorCase):
    buildings = [
        link("a", "s", "t"), link("b", "s", "t"), link("a", "s", "p"), link("a", "p", "t"), link("a", "t", "s"),
        links("a:sp b:pt"), links("b:sp a:pt"), links("a:sq b:qt"), links("a:sp b:pq"), links("a:rp b:pt"),
        link("a", "s", "t") | link("b", "s", "t"), link("a", "s", "t") | link("c", "s", "t"),
        link("a", "s", "p") | link("b", "s", "p"), links("a:sp b:pt c:tu"), link("a", "s", "t") | links("b:sp c:pt"),
        link("b", "s", "t") | links("a:sp c:pt"), (link("a", "s", "p") | link("b", "s", "p")) + link("c", "p", "t"),
    ]

    def test_each_equals_itself_only(self):
        for (at, one), (other, two) in itertools.product(enumerate(self.buildings), repeat=2):
            self.assertIs(one == two, at == other)
            self.assertIs(one != two, at != other)

    def test_built_anew(self):
        self.assertIs(links("a:sp b:pt") == link("a", "s", "p") + link("b", "p", "t"), True)
        self.assertIs(link("a", "s", "t") | link("b", "s", "t") == link("b", "s", "t") | link("a", "s", "t"), True)

    def test_values_of_another_kind(self):
        one = link("a", "s", "t")
        for other in ["a", "link", 1, 0, None, True, (), (one,), [one], one.network(), Ratio(1), Line.straight(0), object()]:
            self.assertIs(one == other, False)
            self.assertIs(other == one, False)
            self.assertIs(one != other, True)


class Text(ErrorCase):
    def test_forks_in_chains_stand_in_parentheses(self):
        two = link("a", "s", "p") | link("b", "s", "p")
        self.assertEqual(str(two + link("c", "p", "t")), "(a | b) + c")
        self.assertEqual(str(link("c", "r", "s") + two), "c + (a | b)")
        self.assertEqual(str(two + (link("d", "p", "t") | link("c", "p", "t"))), "(a | b) + (c | d)")

    def test_chains_in_forks_do_not(self):
        self.assertEqual(str(links("a:sp b:pt") | link("c", "s", "t")), "a + b | c")

    def test_deeper_ones(self):
        inner = (links("d:pq e:qt") | link("f", "p", "t"))
        whole = (link("c", "s", "p") + inner + link("g", "t", "u")) | link("b", "s", "u")
        self.assertEqual(str(whole), "b | c + (d + e | f) + g")
        self.assertEqual(str(link("a", "r", "s") + whole), "a + (b | c + (d + e | f) + g)")


class Networks(ErrorCase):
    def test_network_of_each(self):
        self.assertEqual(str(links("b:sp a:pt").network()), "s > t\na: p > t\nb: s > p")
        two = link("b", "s", "p") | link("a", "s", "p")
        self.assertEqual(str(two.network()), "s > p\na: s > p\nb: s > p")
        whole = two + link("c", "p", "t") | link("d", "s", "t")
        self.assertEqual(str(whole.network()), "s > t\na: s > p\nb: s > p\nc: p > t\nd: s > t")

    def test_largest(self):
        whole = links("a:sb b:bc c:cd d:de e:ef f:fg g:gt") | fork(*[link(name, "s", "t") for name in "hij"])
        network = whole.network()
        self.assertEqual((network.names, network.places), (whole.names, whole.places))
        self.assertEqual((len(network), len(network.places)), (10, 8))


class Example(ErrorCase):
    def test_bad_joint(self):
        self.refused(BadJoint("p"), plus, link("a", "s", "p"), link("b", "q", "t"))


if __name__ == "__main__":
    unittest.main()
