"""The errors: [0.1], and the interface's heading of them."""

import copy
import pickle
import unittest

from refundtrees import errors
from refundtrees.errors import TreeError
from tests_kit import odd_values

ATTRIBUTES = {
    "NoBook": "part", "NoSkill": "skill", "NoBuild": "build", "NoStep": "step", "NoWay": "index",
    "NoPlain": "book", "NoNumber": "value", "NoWish": "wishes", "NoWorth": "worths", "NoSeen": "seen",
    "NoKind": "kind", "NothingBack": "many", "NoNote": "line",
}


class ErrorsTest(unittest.TestCase):
    def test_tree_error_is_a_value_error(self):
        self.assertEqual(TreeError.__bases__, (ValueError,))

    def test_each_stands_directly_under_tree_error(self):
        for name in ATTRIBUTES:
            with self.subTest(name):
                self.assertEqual(getattr(errors, name).__bases__, (TreeError,))

    def test_there_are_no_others(self):
        found = [name for name, value in vars(errors).items() if isinstance(value, type)]
        self.assertEqual(sorted(found), sorted(["TreeError", *ATTRIBUTES]))

    def test_keeps_the_very_argument_by_position(self):
        for name, attribute in ATTRIBUTES.items():
            for value in odd_values() + ["skills", 5, [1], ("a",)]:
                with self.subTest(name):
                    self.assertIs(getattr(getattr(errors, name)(value), attribute), value)

    def test_keeps_the_very_argument_by_name(self):
        for name, attribute in ATTRIBUTES.items():
            for value in odd_values() + ["skills", 5, [1], ("a",)]:
                with self.subTest(name):
                    self.assertIs(getattr(getattr(errors, name)(**{attribute: value}), attribute), value)

    def test_takes_one_argument_of_that_name_alone(self):
        for name, attribute in ATTRIBUTES.items():
            with self.subTest(name):
                for told in ({}, {"other": 1}, {attribute: 1, "other": 1}):
                    with self.assertRaises(TypeError):
                        getattr(errors, name)(**told)
                with self.assertRaises(TypeError):
                    getattr(errors, name)(1, 2)

    def test_is_raised_and_caught_as_each_of_its_classes(self):
        for name in ATTRIBUTES:
            for caught in (getattr(errors, name), TreeError, ValueError):
                with self.subTest(name), self.assertRaises(caught):
                    raise getattr(errors, name)("a")

    def test_a_copy_keeps_the_argument(self):
        for name, attribute in ATTRIBUTES.items():
            error = getattr(errors, name)("a")
            for again in (copy.copy(error), pickle.loads(pickle.dumps(error))):
                with self.subTest(name):
                    self.assertEqual(getattr(again, attribute), "a")


if __name__ == "__main__":
    unittest.main()
