"""[6], [7], [36]: lost_count, first_lost and pop_loses."""

import itertools
import unittest

from samples import all_stacks, letters, listed_targets, random_stacks, reached_by_fact

from deepedge.judge import reaches
from deepedge.losses import first_lost, lost_count, pop_loses
from deepedge.machine import run
from deepedge.targets import count_targets


def lost_words(stack, height, reach):
    """The targets at the height that the stack loses by a pop, by the words of [36]."""
    return [word for word in listed_targets(stack, height, reach) if not reached_by_fact(stack[:-1], word, reach)]


class LossesTest(unittest.TestCase):
    def check(self, stack, reach, most):
        """Compare all three functions with lists of all words, and return what `pop_loses` returns."""
        least = None
        for height in range(most + 1):
            lost = lost_words(stack, height, reach)
            self.assertEqual(lost_count(stack, height, reach=reach), len(lost), (stack, height, reach))
            first = lost[0] if lost else None
            self.assertEqual(first_lost(stack, height, reach=reach), first, (stack, height, reach))
            if lost and least is None:
                least = (height, first)
        found = pop_loses(stack, reach=reach)
        if found is None or found[0] <= most:
            self.assertEqual(found, least, (stack, reach))
        self.assertIs(found is None, reached_by_fact(stack[:-1], stack, reach))
        return found

    def test_small(self):
        self.assertEqual([lost_count(("a", "b"), 2, reach=2), first_lost(("a", "b"), 2, reach=2)], [3, ("a", "b")])
        self.assertIsNone(first_lost(("a", "b"), 0, reach=2))
        self.assertEqual([pop_loses(("a", "b"), reach=2), pop_loses(("a", "a"), reach=2)], [(1, ("b",)), None])

    def test_a_stack_of_one_value(self):
        for reach in (2, 16, 40):
            self.assertEqual(pop_loses(("a",), reach=reach), (1, ("a",)))
            self.assertEqual([lost_count(("a",), height, reach=reach) for height in (0, 1, 2, 60)], [0, 1, 1, 1])
            self.assertEqual(first_lost(("a",), 60, reach=reach), ("a",) * 60)
            self.assertIsNone(first_lost(("a",), 0, reach=reach))

    def test_small_stacks(self):
        heights = set()
        for values, reach, most in [("ab", 2, 5), ("abc", 2, 5), ("abcd", 2, 4), ("abcd", 3, 4)]:
            for stack in all_stacks(values, most):
                if stack and len(set(stack)) == len(set(stack) & set(values[:len(set(stack))])):
                    found = self.check(stack, reach, 5 if values < "abcd" else 4)
                    heights.add(found and found[0])
        self.assertLessEqual({None, 1, 4}, heights)

    def test_higher_stacks(self):
        for stack in random_stacks(95, 40, "abcd", 8):
            if stack:
                self.check(stack, 2, 6)

    def test_a_last_value_that_stands_once_more_far_down(self):
        for reach in (2, 3, 16):
            for count in (1, 2, 5, 20 - reach if reach < 20 else 1):
                middle = letters(40)[1:reach + 1 + count]
                stack = letters(1) * 2 + middle + letters(1)
                found = pop_loses(stack, reach=reach)
                self.assertIs(found is None, reaches(stack[:-1], stack, reach=reach))
                if found is not None:
                    height, target = found
                    self.assertEqual(len(target), height)
                    self.assertIs(reached_by_fact(stack, target, reach), True)
                    self.assertIs(reached_by_fact(stack[:-1], target, reach), False)
                    self.assertEqual(target, first_lost(stack, height, reach=reach))
                    self.assertEqual([lost_count(stack, lower, reach=reach) for lower in range(height)], [0] * height)
        self.assertEqual(self.check(("a", "b", "c", "d", "a"), 2, 6), (4, ("a", "a", "b", "c")))
        self.assertEqual(self.check(("a", "b", "c", "a"), 2, 6), (4, ("a", "a", "b", "c")))
        self.assertIsNone(self.check(("a", "b", "c", "a"), 3, 6))
        self.assertIsNone(self.check(("a", "b", "a"), 2, 6))

    def test_great_heights(self):
        for stack in [letters(40), letters(40)[1:] + letters(2), letters(20) * 2, letters(3) * 13 + ("x",)]:
            for reach in (2, 16, 39, 40):
                for height in (0, 1, 40, 60):
                    lost = lost_count(stack, height, reach=reach)
                    both = [count_targets(cells, height, reach=reach) for cells in (stack, stack[:-1])]
                    self.assertEqual(lost, both[0] - both[1])
                    first = first_lost(stack, height, reach=reach)
                    self.assertIs(first is None, lost == 0)
                    if first is not None:
                        self.assertEqual(len(first), height)
                        self.assertIs(reached_by_fact(stack, first, reach), True)
                        self.assertIs(reached_by_fact(stack[:-1], first, reach), False)

    def test_the_least_of_a_great_height(self):
        names = letters(40)
        self.assertEqual(first_lost(names, 60), names[:1] * 59 + names[39:])
        self.assertEqual(lost_count(names, 60, reach=40), 40 ** 60 - 39 ** 60)
        self.assertEqual(pop_loses(names), (1, names[39:]))

    def test_no_loss(self):
        for stack, reach in [(("a", "a"), 2), (letters(16) * 2, 16), (letters(5) * 8, 5)]:
            self.assertIsNone(pop_loses(stack, reach=reach))
            for height in (0, 1, 5, 60):
                self.assertEqual(lost_count(stack, height, reach=reach), 0)
                self.assertIsNone(first_lost(stack, height, reach=reach))

    def test_stacks_of_more_than_40_values(self):
        stack = run(letters(6), [("dup", 6)] * 60, reach=6)
        self.assertIsNone(pop_loses(stack, reach=6))
        self.assertEqual(pop_loses(stack + ("x",), reach=5), (1, ("x",)))
        deep = ("q",) * 45 + letters(3) + ("q",)
        height, target = pop_loses(deep, reach=2)
        self.assertEqual((height, target[:45]), (48, ("q",) * 45))
        self.assertIs(reached_by_fact(deep, target, 2), True)
        self.assertIs(reached_by_fact(deep[:-1], target, 2), False)
        self.assertEqual(lost_count(deep, 47, reach=2), 0)

    def test_names_and_defaults(self):
        stack = letters(17) + letters(1)
        self.assertEqual(lost_count(height=18, stack=stack), lost_count(stack, 18, reach=16))
        self.assertEqual(first_lost(height=18, stack=stack), first_lost(stack, 18, reach=16))
        self.assertEqual(pop_loses(stack=("a",) + stack), pop_loses(("a",) + stack, reach=16))
        stack = letters(1) + letters(17)[1:] + letters(1)
        self.assertEqual([pop_loses(stack, reach=reach) is None for reach in (15, 16, 17, 18)], [False, False, True, True])
        self.assertEqual(pop_loses(stack), pop_loses(stack, reach=16))
        self.assertEqual(lost_count(stack, 18), lost_count(reach=16, stack=stack, height=18))
        self.assertNotEqual(lost_count(stack, 20), lost_count(stack, 20, reach=17))


if __name__ == "__main__":
    unittest.main()
