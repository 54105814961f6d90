"""Books: points 9, 10 and 58 to 64."""

import random
import unittest

from extralink.books import Book
from extralink.errors import BadCount, BadName, DuplicateName, ExtralinkError, HasRound, NothingToUndo
from extralink.errors import UnknownName, UselessLink
from extralink.networks import Network
from extralink.verdicts import Verdict, decide
from tests.helper import WRONG_NAMES, ErrorCase


def book_of(rows, start="s", end="t"):
    """A book whose links are written as a name, the tail and the head."""
    book = Book(start, end)
    for row in rows.split():
        book[row[:-2]] = (row[-2], row[-1])
    return book


def put(book, name, tail, head):
    book[name] = (tail, head)


def told(book):
    """The links in their order."""
    return [(name, *book[name]) for name in book.order]


def outcome(function):
    """What a call returns, or the class and the arguments of its error."""
    try:
        return function()
    except ExtralinkError as error:
        return error.__class__, vars(error)


def seen(book, names):
    """All that a book tells."""
    items = [(name in book, outcome(lambda: book[name])) for name in names]
    network, verdict = outcome(book.network), outcome(book.verdict)
    paper = verdict.paper if isinstance(verdict, Verdict) else verdict
    return book.order, len(book), items, network, paper


FULL = "asp bpt cst dst est fst gst hst ist jst"


class New(ErrorCase):
    def test_no_links(self):
        book = Book("s", "t")
        self.assertEqual((len(book), book.order, "a" in book), (0, (), False))
        self.refused(UnknownName("a"), lambda: book["a"])
        self.refused(BadCount(0), book.network)
        self.refused(BadCount(0), book.verdict)
        self.refused(NothingToUndo(), book.undo)

    def test_errors(self):
        for wrong in WRONG_NAMES:
            self.refused(BadName(wrong), Book, wrong, "t")
            self.refused(BadName(wrong), Book, "s", wrong)
            self.refused(BadName(wrong), Book, wrong, wrong)
        self.refused(BadName("S"), Book, "S", "T")
        self.refused(DuplicateName("s"), Book, "s", "s")
        self.refused(DuplicateName("end99"), Book, "end99", "end99")

    def test_arguments_by_name(self):
        book = Book(end="x", start="y")
        book["a"] = ("y", "x")
        self.assertEqual(book.network(), Network([("a", "y", "x")], "y", "x"))


class Store(ErrorCase):
    def test_new_links_are_the_last_ones(self):
        book = book_of("csp apt bst")
        self.assertEqual(book.order, ("c", "a", "b"))
        self.assertIs(book.order.__class__, tuple)
        self.assertEqual(told(book), [("c", "s", "p"), ("a", "p", "t"), ("b", "s", "t")])
        self.assertEqual(len(book), 3)

    def test_a_link_that_is_stored_anew_keeps_its_place(self):
        book = book_of("csp apt bst")
        book["a"] = ("q", "r")
        book["c"] = ("s", "t")
        self.assertEqual(told(book), [("c", "s", "t"), ("a", "q", "r"), ("b", "s", "t")])

    def test_a_link_that_was_dropped_comes_last(self):
        book = book_of("csp apt bst")
        book.drop("c")
        book["c"] = ("s", "p")
        self.assertEqual(book.order, ("a", "b", "c"))

    def test_errors(self):
        book = book_of("asp")
        for wrong in WRONG_NAMES:
            self.refused(BadName(wrong), put, book, wrong, "s", "t")
            self.refused(BadName(wrong), put, book, "a", wrong, "t")
            self.refused(BadName(wrong), put, book, "b", "s", wrong)
        self.refused(BadName("A"), put, book, "A", "S", "T")
        self.refused(BadName("S"), put, book, "a", "S", "T")
        self.refused(BadName("T"), put, book, "a", "s", "T")
        self.assertEqual(told(book), [("a", "s", "p")])

    def test_ten_links(self):
        book = book_of(FULL)
        self.assertEqual(len(book), 10)
        self.refused(BadCount(11), put, book, "k", "s", "t")
        self.refused(BadName("K"), put, book, "K", "s", "t")
        self.refused(BadName("S"), put, book, "k", "S", "t")
        self.refused(BadName("T"), put, book, "k", "s", "T")
        self.assertEqual(told(book), told(book_of(FULL)))
        book["j"] = ("p", "t")
        self.assertEqual(book["j"], ("p", "t"))
        book.drop("a")
        book["k"] = ("s", "p")
        self.assertEqual(book.order, tuple("bcdefghijk"))

    def test_what_is_not_refused(self):
        book = book_of("asa bps cts dxy ept fpt")
        self.assertEqual(len(book), 6)
        self.assertEqual(book["a"], ("s", "a"))
        book["r"] = ("p", "p")
        self.assertEqual(book["r"], ("p", "p"))
        self.assertEqual("s" in book, False)


class Links(ErrorCase):
    def test_items(self):
        book = book_of("csp apt")
        self.assertEqual((book["c"], book["a"]), (("s", "p"), ("p", "t")))
        self.assertIs(book["c"].__class__, tuple)
        self.assertEqual([name in book for name in ["a", "c", "b", "s", "", "A"]], [True, True, False, False, False, False])

    def test_unknown_names(self):
        book = book_of("csp apt")
        for name in ["b", "s", *WRONG_NAMES]:
            self.refused(UnknownName(name), lambda: book[name])
            self.refused(UnknownName(name), book.drop, name)
        self.assertEqual(told(book), [("c", "s", "p"), ("a", "p", "t")])
        self.refused(UnknownName("x"), book.drop, name="x")

    def test_drop(self):
        book = book_of("csp apt bst")
        self.assertIsNone(book.drop("a"))
        self.assertEqual((book.order, len(book), "a" in book), (("c", "b"), 2, False))
        self.refused(UnknownName("a"), book.drop, "a")
        book.drop(name="c")
        book.drop("b")
        self.assertEqual(book.order, ())
        self.refused(BadCount(0), book.network)


class Networks(ErrorCase):
    def test_network(self):
        book = book_of("csp apt bst")
        self.assertEqual(book.network(), Network([("c", "s", "p"), ("a", "p", "t"), ("b", "s", "t")], "s", "t"))

    def test_errors_of_the_network(self):
        self.refused(HasRound("b"), book_of("asp bpp cpt").network)
        self.refused(UselessLink("b"), book_of("ast bsp").network)
        self.refused(HasRound("a"), book_of("ast bts").verdict)
        self.refused(UselessLink("a"), book_of("apt bsq").verdict)
        self.refused(BadCount(9), book_of("asp bpq cqr dru euv fvw gwx hxt").network)

    def test_verdict(self):
        for rows, kind in [("asp bpt", "tail"), ("asp bsp cpt dpt", "woven"), ("asp bsq cpq dpt eqt", "bridged")]:
            book = book_of(rows)
            verdict = book.verdict()
            self.assertIs(verdict.__class__, Verdict)
            self.assertEqual((verdict.kind, verdict.paper), (kind, decide(book.network()).paper))

    def test_a_network_does_not_change_with_the_book(self):
        book = book_of("ast bst")
        network = book.network()
        book.drop("a")
        self.assertEqual(network.names, ("a", "b"))


class Undo(ErrorCase):
    def test_stores_and_drops(self):
        book = book_of("csp apt")
        book["c"] = ("s", "q")
        book["b"] = ("q", "p")
        book.drop("c")
        book["c"] = ("s", "t")
        for rows in ["apt bqp", "csq apt bqp", "csq apt", "csp apt", "csp", ""]:
            self.assertIsNone(book.undo())
            self.assertEqual(told(book), told(book_of(rows)))
        self.refused(NothingToUndo(), book.undo)
        self.assertEqual(book.order, ())

    def test_the_link_that_was_there_is_a_change(self):
        book = book_of("ast bst")
        book["a"] = ("s", "t")
        book.undo()
        self.assertEqual(told(book), told(book_of("ast bst")))
        book.undo()
        self.assertEqual(told(book), told(book_of("ast")))

    def test_undo_is_no_change(self):
        book = book_of("ast bst cst")
        book.undo()
        book.undo()
        self.assertEqual(book.order, ("a",))
        book["d"] = ("s", "t")
        book.undo()
        book.undo()
        self.refused(NothingToUndo(), book.undo)

    def test_behind_an_error(self):
        book = book_of("ast bst")
        for call in [lambda: put(book, "A", "s", "t"), lambda: book.drop("z"), lambda: book["z"], lambda: put(book, "c", "", "t")]:
            with self.assertRaises(ExtralinkError):
                call()
        book.undo()
        self.assertEqual(book.order, ("a",))
        book.undo()
        for _ in range(3):
            self.refused(NothingToUndo(), book.undo)
        book["a"] = ("s", "t")
        self.assertEqual(book.order, ("a",))

    def test_behind_the_eleventh_link(self):
        book = book_of(FULL)
        self.refused(BadCount(11), put, book, "k", "s", "t")
        book.undo()
        self.assertEqual(book.order, tuple("abcdefghi"))

    def test_many_changes(self):
        book = Book("s", "t")
        for at in range(300):
            book["a" + str(at // 2 % 3)] = ("s", "t")
            if at % 2:
                book.drop("a" + str(at // 2 % 3))
        for _ in range(450):
            book.undo()
        self.refused(NothingToUndo(), book.undo)


class Tried(ErrorCase):
    NAMES = [*"abcdefghijkz", "", "A"]

    def assert_tried(self, rows, changes, expected):
        book = book_of(rows)
        before = seen(book, self.NAMES)
        held = list(changes)
        found = outcome(lambda: book.tried(changes))
        self.assertEqual(found.kind if isinstance(found, Verdict) else found, expected)
        self.assertEqual(changes, held)
        self.assertEqual(seen(book, self.NAMES), before)
        for at in range(len(rows.split()), 0, -1):
            self.assertEqual(told(book), told(book_of(" ".join(rows.split()[:at]))))
            book.undo()
        self.refused(NothingToUndo(), book.undo)

    def test_good_changes(self):
        rows = "asp bpt csq dqt"
        self.assert_tried(rows, [], "tail")
        self.assert_tried(rows, [("e", ("p", "q"))], "bridged")
        self.assert_tried(rows, [("e", ("p", "q")), ("e", ("s", "t"))], "tail")
        self.assert_tried(rows, [("e", ("p", "q")), ("e", None)], "tail")
        self.assert_tried(rows, [("c", ("s", "p")), ("d", ("p", "t"))], "woven")
        self.assert_tried(rows, [("a", None), ("b", None), ("c", None), ("d", ("s", "t"))], "tail")
        self.assert_tried("", [("a", ("s", "t"))], "tail")

    def test_changes_that_raise(self):
        rows = "asp bpt"
        unknown = (UnknownName, {"name": "z"})
        self.assert_tried(rows, [("z", None)], unknown)
        self.assert_tried(rows, [("c", ("s", "t")), ("z", None), ("A", ("s", "t"))], unknown)
        self.assert_tried(rows, [("a", None), ("a", None)], (UnknownName, {"name": "a"}))
        self.assert_tried(rows, [("A", ("s", "t")), ("z", None)], (BadName, {"name": "A"}))
        self.assert_tried(rows, [("c", ("S", "T"))], (BadName, {"name": "S"}))
        self.assert_tried(rows, [("c", ("s", "T"))], (BadName, {"name": "T"}))
        self.assert_tried(FULL, [("k", ("s", "t")), ("z", None)], (BadCount, {"count": 11}))
        self.assert_tried(FULL, [("j", None), ("k", ("s", "t"))], "tail")

    def test_what_the_network_raises(self):
        self.assert_tried("asp bpt", [("c", ("p", "s"))], (HasRound, {"name": "a"}))
        self.assert_tried("asp bpt", [("b", None)], (UselessLink, {"name": "a"}))
        self.assert_tried("asp bpt", [("b", None), ("a", None)], (BadCount, {"count": 0}))
        self.assert_tried("", [], (BadCount, {"count": 0}))
        self.assert_tried("asp", [], (UselessLink, {"name": "a"}))

    def test_the_verdict(self):
        book = book_of("asp bpt csq dqt")
        verdict = book.tried(changes=[("e", ("p", "q"))])
        self.assertIs(verdict.__class__, Verdict)
        book["e"] = ("p", "q")
        self.assertEqual(verdict.paper, book.verdict().paper)

    def test_undo_behind_it(self):
        book = book_of("ast bst")
        book.undo()
        book.tried([("c", ("s", "t"))])
        self.refused(UnknownName("z"), book.tried, [("c", ("s", "t")), ("z", None)])
        book.undo()
        self.assertEqual(book.order, ())
        self.refused(NothingToUndo(), book.undo)


class Sequences(ErrorCase):
    NAMES = ["a", "b", "c", "d", "e", "z", "", "A"]

    def call(self, rng, book, model, past):
        """Make one call to the book, and the same to a list of links and a list of earlier ones."""
        name = rng.choice(self.NAMES)
        known = [at for at, link in enumerate(model) if link[0] == name]
        action = rng.choice(["store", "store", "store", "drop", "undo", "tried"])
        if action == "undo":
            got = outcome(book.undo)
            self.assertEqual(got, None if past else (NothingToUndo, {}))
            return past.pop() if past else model
        if action == "tried":
            outcome(lambda: book.tried([(name, rng.choice([None, ("s", "t"), ("p", "q")])), ("b", ("s", "p")), ("c", None)]))
            return model
        if action == "drop":
            got = outcome(lambda: book.drop(name))
            self.assertEqual(got, None if known else (UnknownName, {"name": name}))
            changed = [link for link in model if link[0] != name]
        else:
            ends = (rng.choice("spq"), rng.choice("pqt"))
            got = outcome(lambda: put(book, name, *ends))
            changed = [(name, *ends) if link[0] == name else link for link in model] + [(name, *ends)] * (not known)
        if got is None:
            past.append(model)
            return changed
        return model

    def test_like_a_new_book(self):
        rng = random.Random(32)
        met = set()
        for _ in range(60):
            book, model, past = Book("s", "t"), [], []
            for _ in range(40):
                model = self.call(rng, book, model, past)
                self.assertEqual(told(book), model)
                other = Book("s", "t")
                for name, tail, head in model:
                    other[name] = (tail, head)
                found = seen(book, self.NAMES)
                self.assertEqual(found, seen(other, self.NAMES))
                met.add(str(found[-1][0]))
        self.assertLessEqual({"tail", "bridged", str(BadCount), str(HasRound), str(UselessLink)}, met)

    def test_not_equal_to_a_value_of_another_kind(self):
        for other in [None, 0, "", (), {}, []]:
            self.assertIs(Book("s", "t") == other, False)


class Examples(ErrorCase):
    def test_tried(self):
        book = Book("s", "t")
        book["a"] = ("s", "p")
        book["b"] = ("p", "t")
        book["c"] = ("s", "q")
        book["d"] = ("q", "t")
        found = [book.tried([("e", ("p", "q"))]).kind, book.verdict().kind, book.order]
        self.assertEqual(found, ["bridged", "tail", ("a", "b", "c", "d")])


if __name__ == "__main__":
    unittest.main()
