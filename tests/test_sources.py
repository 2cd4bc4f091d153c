"""[6], [7], [36]: count_sources."""

import itertools
import math
import unittest

from samples import all_stacks, letters, random_stacks, reached_by_fact

from deepedge.floors import profile
from deepedge.judge import reaches
from deepedge.machine import run
from deepedge.sources import count_sources


def words_with(length, letters_in_all, needed):
    """How many words there are in which the needed letters occur, by inclusion and exclusion."""
    if length < 0:
        return 0
    return sum((-1) ** i * math.comb(needed, i) * (letters_in_all - i) ** length for i in range(needed + 1))


class CountSourcesTest(unittest.TestCase):
    def check(self, target, height, values, reach):
        """Compare with what listing all stacks tells, and return the number."""
        stacks = itertools.product(values, repeat=height)
        found = sum(reached_by_fact(stack, target, reach) for stack in stacks)
        self.assertEqual(count_sources(target, height, values, reach=reach), found, (target, height, values, reach))
        return found

    def test_small(self):
        self.assertEqual(count_sources(("a", "b"), 2, ("a", "b"), reach=2), 2)
        self.assertEqual(count_sources(("a", "b", "c"), 3, ("a", "b", "c"), reach=2), 6)
        self.assertEqual(count_sources(values=("b", "a"), height=3, target=("a",)), 7)

    def test_against_reaches(self):
        for target in all_stacks("abc", 3):
            for height in range(4):
                stacks = itertools.product("abc", repeat=height)
                found = sum(reaches(stack, target, reach=2) for stack in stacks)
                self.assertEqual(count_sources(target, height, ("a", "b", "c"), reach=2), found)

    def test_small_targets(self):
        told = set()
        for reach, values, most in [(2, "abc", 4), (2, "abcd", 4), (3, "abcd", 4), (2, "dcba", 4)]:
            for target in all_stacks(sorted(values), most):
                for height in range(6 if len(values) == 3 else 5):
                    told.add(self.check(target, height, tuple(values), reach))
        self.assertLessEqual({0, 1, 2, 6, 243}, told)

    def test_deep_targets(self):
        for target in random_stacks(91, 40, "abcd", 7):
            for height in (3, 4, 5, 6):
                self.check(target, height, ("a", "b", "c", "d"), 2)

    def test_values_that_are_those_of_the_target_or_not(self):
        target = ("a", "b", "c", "a")
        for values in [(), ("a",), ("a", "b"), ("x", "y"), ("c", "a", "b"), ("x", "c", "a", "b"), ("a", "b", "c", "x", "y")]:
            for height in range(6):
                for reach in (2, 3):
                    found = self.check(target, height, values, reach)
                    self.assertTrue(found == 0 or set(target) <= set(values))
        self.assertEqual(count_sources(("p", "a", "b", "c"), 4, ("a", "b", "c"), reach=2), 0)
        self.assertEqual(self.check(("p", "a", "b", "c"), 4, ("a", "b", "c", "p"), 2), 6)

    def test_no_values_and_no_cells(self):
        self.assertEqual([count_sources((), height, ()) for height in (0, 1, 60)], [1, 0, 0])
        self.assertEqual([count_sources(("a",), height, ()) for height in (0, 1, 60)], [0, 0, 0])
        self.assertEqual(count_sources((), 0, ("a", "b")), 1)
        self.assertEqual(count_sources(("a",), 0, ("a", "b")), 0)
        self.assertEqual(count_sources((), 60, letters(10)), 10 ** 60)

    def test_great_heights_and_ten_values(self):
        values = letters(10)
        for target in [values, values[::-1] * 6, values[:5] * 8, values * 2 + values[:3], ("au",) * 60, values[4:] * 10]:
            for reach in (2, 5, 9, 10, 16, 40):
                depth, _, needed = profile(target, reach=reach)
                for height in (0, 1, depth, depth + 1, 40, 60):
                    if len(needed) <= reach:
                        expected = words_with(height, 10, len(needed))
                    else:
                        expected = (reach + 1) * words_with(height - depth - 1, 10, reach)
                    self.assertEqual(count_sources(target, height, values, reach=reach), expected)
                    self.assertEqual(count_sources(target, height, values[::-1], reach=reach), expected)

    def test_more_values_than_the_stack_has_cells(self):
        self.assertEqual(count_sources(letters(10), 9, letters(10), reach=40), 0)
        self.assertEqual(count_sources(letters(10), 10, letters(10), reach=40), math.factorial(10))
        self.assertEqual(count_sources(letters(40), 40, letters(10)), 0)

    def test_the_default_reach_and_high_targets(self):
        target = run(letters(4), [("dup", 4)] * 80, reach=4)
        self.assertEqual(count_sources(target, 7, letters(5)), words_with(7, 5, 4))
        self.assertEqual(count_sources(target, 60, letters(4), reach=3), 0)
        target = letters(18)
        for reach in (16, 17):
            depth = 17 - reach
            expected = (reach + 1) * words_with(19 - depth - 1, 18, reach)
            self.assertEqual(count_sources(target, 19, letters(18), reach=reach), expected)
        self.assertEqual(count_sources(target, 19, letters(18)), count_sources(target, 19, letters(18), reach=16))
        self.assertEqual(count_sources(reach=2, target=("a",), values=("a",), height=2), 1)


if __name__ == "__main__":
    unittest.main()
