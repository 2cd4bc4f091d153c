"""[6], [7], [20], [21]: depths, floors and profiles."""

import unittest

from samples import all_stacks, depth_by_definition, floors_by_definition, letters, random_pairs, reached_by_fact

from deepedge.floors import common_prefix, depth_of, floors, profile
from deepedge.judge import reaches

STACKS = list(all_stacks("abc", 4))


class CommonPrefixTest(unittest.TestCase):
    def test_prefixes(self):
        for one, other, count in [
            ("", "", 0), ("", "a", 0), ("a", "b", 0), ("a", "a", 1), ("ab", "ac", 1), ("ab", "a", 1), ("abc", "abcd", 3),
            ("abc", "bbc", 0), ("abcd", "abxd", 2),
        ]:
            self.assertEqual(common_prefix(tuple(one), tuple(other)), count)
            self.assertEqual(common_prefix(tuple(other), tuple(one)), count)
        self.assertEqual(common_prefix(one=("a",) * 700, other=("a",) * 699 + ("b",)), 699)


class DepthTest(unittest.TestCase):
    def test_small(self):
        self.assertEqual(depth_of(("p", "a", "b", "b", "c"), reach=2), 1)
        self.assertEqual([depth_of(()), depth_of((), reach=2), depth_of(letters(40))], [0, 0, 23])
        self.assertEqual(depth_of(target=letters(18)), 1)

    def test_around_the_reach(self):
        for reach in (2, 16, 38, 39, 40):
            for height in (reach, reach + 1, reach + 2):
                self.assertEqual(depth_of(letters(height)[:40], reach=reach), max(0, min(height, 40) - reach - 1))

    def test_against_the_definition(self):
        for target in all_stacks("abcd", 5):
            for reach in (2, 3):
                self.assertEqual(depth_of(target, reach=reach), depth_by_definition(target, reach))
        for stack, target, reach in random_pairs(21, 300):
            self.assertEqual(depth_of(target, reach=reach), depth_by_definition(target, reach))

    def test_high_targets(self):
        self.assertEqual(depth_of(("a", "b", "c") * 300, reach=2), 897)
        self.assertEqual(depth_of(("a", "b") * 300, reach=2), 0)


class FloorsTest(unittest.TestCase):
    def test_small(self):
        target = ("p", "a", "b", "b", "c")
        self.assertEqual(floors(("p", "a", "b", "c"), target, reach=2), [1])
        stack = ("a", "b", "c", "d")
        self.assertEqual(floors(stack, stack, reach=2), [1])
        self.assertEqual(floors(stack, ("a", "b", "b", "c"), reach=2), [0, 1])
        self.assertEqual(floors(stack, ("a", "a", "b", "c"), reach=2), [])

    def test_empty(self):
        self.assertEqual(floors((), ()), [0])
        self.assertEqual(floors((), ("a",)), [])
        self.assertEqual(floors(("a",), ()), [0])

    def test_no_floor_but_0_without_reach_and_one_more_cells_above(self):
        for height in (17, 18, 19, 20):
            stack = ("a",) * height
            self.assertEqual(floors(stack, stack), list(range(max(1, height - 16))))
            self.assertEqual(floors(stack, stack + ("a",)), list(range(max(1, height - 16))))
            self.assertEqual(floors(stack + ("a",), stack), list(range(max(1, height - 16))))

    def test_the_edge(self):
        self.assertEqual(floors(("a", "b", "c"), ("c", "a", "b"), reach=2), [0])
        self.assertEqual(floors(("d", "a", "b", "c"), ("c", "a", "b"), reach=2), [])
        self.assertEqual(floors(("a", "b", "c"), ("c", "a", "b", "c"), reach=2), [])
        self.assertEqual(floors(("c", "a", "b"), ("c", "a", "b", "c"), reach=2), [])

    def test_small_pairs_against_the_definition(self):
        for stack in STACKS:
            for target in STACKS:
                self.assertEqual(floors(stack, target, reach=2), floors_by_definition(stack, target, 2))

    def test_random_pairs_against_the_definition(self):
        several = 0
        for stack, target, reach in random_pairs(22, 1500):
            found = floors(stack, target, reach=reach)
            self.assertEqual(found, floors_by_definition(stack, target, reach))
            self.assertEqual(found != [], reached_by_fact(stack, target, reach))
            if found != []:
                depth = depth_of(target, reach=reach)
                self.assertEqual(found, list(range(depth, depth + len(found))))
                several += len(found) > 1
        self.assertGreater(several, 50)

    def test_result_belongs_to_the_caller(self):
        stack = ("a", "b", "c", "d")
        floors(stack, stack, reach=2).append("x")
        self.assertEqual(floors(stack=stack, target=stack, reach=2), [1])

    def test_high_stacks(self):
        stack = ("a", "b") * 250
        self.assertEqual(floors(stack, stack + ("a",), reach=3), list(range(497)))


class ProfileTest(unittest.TestCase):
    def test_small(self):
        self.assertEqual(profile(("p", "a", "b", "b", "c"), reach=2), (1, ("p",), ("a", "b", "c")))
        self.assertEqual(profile(()), (0, (), ()))
        self.assertEqual(profile(("c", "a", "c")), (0, (), ("a", "c")))
        self.assertEqual(profile(target=("c", "b", "a", "a"), reach=2), (0, (), ("a", "b", "c")))
        self.assertEqual(profile(letters(40)), (23, letters(40)[:23], letters(40)[23:]))

    def test_against_the_definition(self):
        for stack, target, reach in random_pairs(23, 300):
            depth = depth_by_definition(target, reach)
            expected = (depth, target[:depth], tuple(sorted(set(target[depth:]))))
            self.assertEqual(profile(target, reach=reach), expected)
            if depth > 0:
                self.assertEqual(len(expected[2]), reach + 1)
                self.assertEqual(target[depth:].count(target[depth]), 1)

    def test_equal_profiles_are_reached_by_the_same_stacks(self):
        groups = {}
        for target in all_stacks("abc", 3):
            groups.setdefault(profile(target, reach=2), []).append(target)
        for group in groups.values():
            for stack in STACKS:
                self.assertEqual(len({reaches(stack, target, reach=2) for target in group}), 1)


if __name__ == "__main__":
    unittest.main()
