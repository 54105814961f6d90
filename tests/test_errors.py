"""The errors: points 10 and 11."""

import unittest

from extralink import errors
from extralink.errors import ExtralinkError
from extralink.ratios import Ratio

ARGUMENTS = {
    "BadName": ("name",),
    "DuplicateName": ("name",),
    "UnknownName": ("name",),
    "BadCount": ("count",),
    "OutOfRange": ("value",),
    "BadLine": ("number", "text"),
    "BadText": ("text",),
    "HasRound": ("name",),
    "UselessLink": ("name",),
    "BadJoint": ("place",),
    "BadWay": ("way",),
    "NoWay": (),
    "NotBuilding": (),
    "NoHarm": ("kind",),
    "NothingToUndo": (),
}


def error_class(word):
    return getattr(errors, word)


class Kinds(unittest.TestCase):
    def test_there_are_fifteen(self):
        self.assertEqual(len(ARGUMENTS), 15)

    def test_base_is_a_value_error(self):
        self.assertTrue(issubclass(ExtralinkError, ValueError))
        self.assertNotEqual(ExtralinkError, ValueError)

    def test_each_is_an_extralink_error_and_a_value_error(self):
        for word, arguments in ARGUMENTS.items():
            with self.subTest(word):
                error = error_class(word)(*arguments)
                self.assertIsInstance(error, ExtralinkError)
                self.assertIsInstance(error, ValueError)

    def test_none_is_of_another_class_of_the_fifteen(self):
        for word, arguments in ARGUMENTS.items():
            error = error_class(word)(*arguments)
            for other in ARGUMENTS:
                with self.subTest(word, other=other):
                    self.assertEqual(isinstance(error, error_class(other)), word == other)

    def test_each_can_be_raised_and_caught(self):
        for word, arguments in ARGUMENTS.items():
            for caught in (error_class(word), ExtralinkError, ValueError):
                with self.subTest(word, caught=caught):
                    error = error_class(word)(*arguments)
                    with self.assertRaises(caught) as held:
                        raise error
                    self.assertIs(held.exception, error)


class Arguments(unittest.TestCase):
    def values(self):
        return [
            "", "a", "two\nrows", 0, -7, 10 ** 40, 10 ** 5000, None, True,
            (), ("a", "b"), [1, [2]], {"a": 1}, Ratio(-3, 2), Ratio(10 ** 5000, 3), object(),
        ]

    def assert_kept(self, word, error, values):
        for argument, value in zip(ARGUMENTS[word], values):
            self.assertIs(getattr(error, argument), value)

    def assert_kept_either_way(self, word, values):
        arguments = ARGUMENTS[word]
        self.assert_kept(word, error_class(word)(*values), values)
        self.assert_kept(word, error_class(word)(**dict(zip(arguments, values))), values)

    def test_any_value_is_kept_by_position_and_by_name(self):
        for word, arguments in ARGUMENTS.items():
            for value in self.values():
                with self.subTest(word, kind=value.__class__):
                    self.assert_kept_either_way(word, [value] * len(arguments))

    def test_two_arguments_are_not_mixed_up(self):
        self.assert_kept_either_way("BadLine", [3, "a: s > t"])
        self.assert_kept_either_way("BadLine", ["a: s > t", 3])
        error = errors.BadLine(text="a: s > t", number=3)
        self.assertEqual((error.number, error.text), (3, "a: s > t"))

    def test_a_list_that_grows_is_the_very_list(self):
        for word, arguments in ARGUMENTS.items():
            grown = [1]
            error = error_class(word)(*[grown for _ in arguments])
            grown.append(2)
            for argument in arguments:
                with self.subTest(word, argument=argument):
                    self.assertIs(getattr(error, argument), grown)
                    self.assertEqual(getattr(error, argument), [1, 2])

    def test_each_object_has_arguments_of_its_own(self):
        for word, arguments in ARGUMENTS.items():
            first = error_class(word)(*["x" for _ in arguments])
            second = error_class(word)(*["y" for _ in arguments])
            for argument in arguments:
                with self.subTest(word, argument=argument):
                    self.assertEqual(getattr(first, argument), "x")
                    self.assertEqual(getattr(second, argument), "y")


if __name__ == "__main__":
    unittest.main()
