"""[2], [3], [9]: values, stacks and reaches."""

import copy
import unittest

from samples import STRANGE, letters

from deepedge.errors import InvalidStack
from deepedge.values import is_reach, is_stack, is_value, make_stack


class ValueTest(unittest.TestCase):
    def test_values(self):
        for thing in ["a", "z", "az", "abcdefgh", "zzzzzzzz"]:
            self.assertIs(is_value(thing), True, thing)

    def test_lengths(self):
        self.assertEqual([is_value("a" * n) for n in (0, 1, 8, 9)], [False, True, True, False])

    def test_no_values(self):
        for thing in STRANGE + [("a",), ["a"], 1, 0, "a1", "`", "{", "aB", "Za", "a-", "a ", " a", "a\n", "\na"]:
            self.assertIs(is_value(thing), False, thing)

    def test_by_name(self):
        self.assertEqual([is_value(thing="a"), is_stack(thing=("a",)), is_reach(thing=2)], [True, True, True])


class StackTest(unittest.TestCase):
    def test_stacks(self):
        for thing in [(), ("a",), ("a", "a"), ("abcdefgh", "b"), letters(40), ("a",) * 40]:
            self.assertIs(is_stack(thing), True, thing)

    def test_no_stacks(self):
        for thing in [("a",) * 41, letters(41), ["a"], [], "a", "", {}, ("a", 1), ("a", ""), (("a",),), (None,), None]:
            self.assertIs(is_stack(thing), False, thing)

    def test_strange_cells(self):
        for thing in STRANGE:
            self.assertIs(is_stack(thing), thing == ("dup",), thing)
            self.assertIs(is_stack((thing,)), False, thing)
            self.assertIs(is_stack(("a",) * 39 + (thing,)), False, thing)


class ReachTest(unittest.TestCase):
    def test_reaches(self):
        self.assertEqual([n for n in range(-50, 100) if is_reach(n)], list(range(2, 41)))
        self.assertIs(is_reach(2), True)

    def test_no_reaches(self):
        for thing in STRANGE + ["2", (2,), [2], 41, 1, 0]:
            self.assertIs(is_reach(thing), False, thing)


class MakeStackTest(unittest.TestCase):
    def wrong_index(self, *values):
        with self.assertRaises(InvalidStack) as caught:
            make_stack(*values)
        return caught.exception.index

    def test_makes(self):
        self.assertEqual(make_stack(), ())
        self.assertEqual(make_stack("a", "b", "a"), ("a", "b", "a"))
        self.assertEqual(make_stack(*letters(40)), letters(40))

    def test_first_wrong_argument(self):
        self.assertEqual(self.wrong_index("a", "B", 3), 1)
        self.assertEqual(self.wrong_index(("a",)), 0)
        self.assertEqual(self.wrong_index(["a"], None), 0)

    def test_strange_arguments(self):
        for thing in STRANGE:
            before = copy.deepcopy(thing)
            self.assertEqual(self.wrong_index("a", thing), 1, thing)
            self.assertEqual(self.wrong_index(*letters(39), thing, thing), 39, thing)
            self.assertEqual(thing, before)

    def test_too_many(self):
        self.assertEqual(self.wrong_index(*letters(41)), 40)
        self.assertEqual(self.wrong_index(*["a"] * 100), 40)
        self.assertEqual(self.wrong_index(*["a"] * 40, None), 40)
        self.assertEqual(self.wrong_index(*["a"] * 41, None), 40)
        self.assertEqual(self.wrong_index(*["a"] * 39, None, "a"), 39)


if __name__ == "__main__":
    unittest.main()
