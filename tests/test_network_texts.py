"""Networks as texts: point 23."""

import itertools
import unittest

from extralink.errors import BadCount, BadLine, BadName, DuplicateName, HasRound, UselessLink
from extralink.networks import Network
from tests.helper import FOUR, TEXTS, WRONG_NAMES, ErrorCase, networks, small_networks, triples

SIGNS = [chr(code) for code in range(32, 127) if chr(code) != "%"]


class Text(ErrorCase):
    def test_rows_in_the_order_of_the_names(self):
        links = [("b", "p", "t"), ("a2", "s", "p"), ("a10", "s", "t")]
        self.assertEqual(str(Network(links, "s", "t")), "s > t\na10: s > t\na2: s > p\nb: p > t")

    def test_one_link(self):
        self.assertEqual(str(Network([("link1", "start9", "end")], "start9", "end")), "start9 > end\nlink1: start9 > end")

    def test_and_back(self):
        for network in [*networks(), *small_networks(4, 6)]:
            self.assertEqual(Network.read(str(network)), network)

    def test_in_an_f_string(self):
        self.assertEqual(f"{Network.read(FOUR)}", FOUR)


class Read(ErrorCase):
    def test_rows_in_any_order(self):
        first, *rows = FOUR.split("\n")
        for order in itertools.permutations(rows):
            network = Network.read("\n".join([first, *order]))
            self.assertEqual(network, Network.read(FOUR))
            self.assertEqual(str(network), FOUR)

    def test_what_is_read(self):
        network = Network.read("s > end\nb1: s > p\na: p > end")
        self.assertEqual((network.start, network.end), ("s", "end"))
        self.assertEqual(triples(network), [("a", "p", "end"), ("b1", "s", "p")])

    def test_argument_by_name(self):
        self.assertEqual(Network.read(text=FOUR), Network.read(FOUR))

    def test_one_and_ten_links(self):
        for many in [1, 10]:
            rows = [f"l{at}: s > t" for at in range(many)]
            self.assertEqual(len(Network.read("\n".join(["s > t", *rows]))), many)


class FirstRow(ErrorCase):
    def assert_bad(self, first):
        for rows in [[], ["a: s > t"], ["wrong"], ["", ""], ["a: s > t"] * 11]:
            self.refused(BadLine(1, first), Network.read, "\n".join([first, *rows]))

    def test_empty(self):
        self.assert_bad("")
        self.refused(BadLine(1, ""), Network.read, "\n" + FOUR)

    def test_blanks(self):
        for first in [" s > t", "s > t ", "s  > t", "s >  t", "s> t", "s >t", "s>t", " ", "s t", "s > t > u"]:
            self.assert_bad(first)

    def test_parts(self):
        for first in ["s", "s > ", " > t", " > ", ">", "s >", "> t", "s t", "s - t", "s : t", "s > t:", "a: s > t"]:
            self.assert_bad(first)

    def test_names(self):
        for wrong in WRONG_NAMES:
            if "\n" not in wrong:
                self.assert_bad(f"{wrong} > t")
                self.assert_bad(f"s > {wrong}")

    def test_every_sign_at_every_place(self):
        for sign in SIGNS:
            for at in range(len("s > t") + 1):
                first = "s > t"[:at] + sign + "s > t"[at:]
                names = first.split(" > ")
                if not all(part.isalnum() and part[0].islower() and part == part.lower() for part in names):
                    self.assert_bad(first)

    def test_a_newline_in_it(self):
        self.refused(BadLine(1, "s >"), Network.read, "s >\n t\na: s > t")


class Counts(ErrorCase):
    def test_no_further_row(self):
        self.refused(BadCount(0), Network.read, "s > t")
        self.refused(BadCount(0), Network.read, "s > s")

    def test_too_many_rows(self):
        for many in [11, 12, 30]:
            rows = [f"l{at}: s > t" for at in range(many)]
            self.refused(BadCount(many), Network.read, "\n".join(["s > t", *rows]))

    def test_empty_rows_count(self):
        rows = [f"l{at}: s > t" for at in range(10)]
        self.refused(BadCount(11), Network.read, "\n".join(["s > t", *rows, ""]))
        self.refused(BadCount(11), Network.read, "s > t" + "\n" * 11)

    def test_before_the_rows_and_what_the_constructor_raises(self):
        self.refused(BadCount(11), Network.read, "\n".join(["s > s", *["wrong"] * 11]))


class FurtherRows(ErrorCase):
    def assert_bad(self, row):
        for before in range(3):
            rows = ["s > t", *[f"l{at}: s > t" for at in range(before)], row]
            for after in [[], ["z: s > t"], ["wrong"], [""]]:
                self.refused(BadLine(before + 2, row), Network.read, "\n".join(rows + after))

    def test_empty(self):
        self.assert_bad("")
        self.refused(BadLine(2, ""), Network.read, "s > t\n")
        self.refused(BadLine(3, ""), Network.read, "s > t\na: s > t\n")
        self.refused(BadLine(2, ""), Network.read, "s > t\n\na: s > t")

    def test_blanks(self):
        for row in [" a: s > t", "a : s > t", "a:s > t", "a:  s > t", "a: s> t", "a: s >t", "a: s  > t", "a: s >  t",
                    "a: s > t ", "a: s>t", "a s > t", " "]:
            self.assert_bad(row)

    def test_parts(self):
        for row in ["a", "a:", "a: ", "a: s", "a: s > ", "a:  > t", ": s > t", "s > t", "a: s > t > u", "a: b: s > t",
                    "a: s: > t", "a: s > t: ", ": ", " > ", ":  > ", "a > s: t", "a: s t", "a: s - t", "a; s > t"]:
            self.assert_bad(row)

    def test_names(self):
        for wrong in WRONG_NAMES:
            if "\n" not in wrong and wrong != "s > t":
                self.assert_bad(f"{wrong}: s > t")
                self.assert_bad(f"a: {wrong} > t")
                self.assert_bad(f"a: s > {wrong}")

    def test_every_sign_that_no_name_has(self):
        for sign in SIGNS:
            if not sign.isalnum() or sign.isupper():
                for at in range(len("a: s > t") + 1):
                    self.assert_bad("a: s > t"[:at] + sign + "a: s > t"[at:])

    def test_the_first_bad_row_counts(self):
        self.refused(BadLine(3, "bad"), Network.read, "s > t\na: s > t\nbad\nb: s > t\nworse\n")


class Constructor(ErrorCase):
    def test_what_it_raises(self):
        self.refused(DuplicateName("s"), Network.read, "s > s\na: s > t")
        self.refused(DuplicateName("a"), Network.read, "s > t\na: s > t\na: s > t")
        self.refused(HasRound("b"), Network.read, "s > t\na: s > t\nb: p > p")
        self.refused(UselessLink("b"), Network.read, "s > t\na: s > t\nb: s > p")
        rows = [f"a: {tail} > {head}".replace("a", tail, 1) for tail, head in zip("sijklmno", "ijklmnot")]
        self.refused(BadCount(9), Network.read, "\n".join(["s > t", *rows]))

    def test_rows_come_first(self):
        self.refused(BadLine(3, "B: s > t"), Network.read, "s > s\na: s > s\nB: s > t")
        self.assertRaises(BadName, Network, [("a", "s", "s"), ("B", "s", "t")], "s", "t")

    def test_all_texts_of_the_helper(self):
        for text in TEXTS:
            self.assertEqual(sorted(str(Network.read(text)).split("\n")[1:]), sorted(text.split("\n")[1:]))


if __name__ == "__main__":
    unittest.main()
