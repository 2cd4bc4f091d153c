"""[6], [7], [23], [24], [33]: least_reach and helpful_pushes."""

import unittest

from samples import all_stacks, letters, random_pairs, reached_by_fact

from deepedge.blocked import check_blocked
from deepedge.judge import decide, reaches
from deepedge.machine import run
from deepedge.reaches import helpful_pushes, least_reach


class LeastReachTest(unittest.TestCase):
    def check(self, stack, target, most=40):
        """Compare with what the first fact of [7] tells for each reach, and return the least one."""
        enough = [reach for reach in range(2, most + 1) if reached_by_fact(stack, target, reach)]
        self.assertEqual(enough, [reach for reach in range(2, most + 1) if reaches(stack, target, reach=reach)])
        found = least_reach(stack, target)
        if enough == []:
            self.assertIsNone(found)
            return None
        least = enough[0]
        self.assertEqual(enough, list(range(least, most + 1)))
        self.assertLessEqual(least, max(2, len(set(target))))
        certificate = None if least == 2 else decide(stack, target, reach=least - 1)[1]
        self.assertEqual(found, (least, certificate))
        if least > 2:
            self.assertIs(check_blocked(stack, target, certificate, reach=least - 1), True)
        return least

    def test_small(self):
        stack = ("a", "b", "c", "d")
        self.assertEqual(least_reach(stack, ("b", "c", "d")), (3, (0, (), "edge", ("b", "c", "d"))))
        self.assertEqual(least_reach(("a", "b"), ("b",)), (2, None))
        self.assertIsNone(least_reach(("a",), ("b",)))
        self.assertEqual(least_reach((), ()), (2, None))
        self.assertIsNone(least_reach((), ("a",)))
        self.assertEqual(least_reach(target=(), stack=stack), (2, None))
        self.assertEqual(least_reach(stack, stack), (2, None))

    def test_small_pairs(self):
        for stack in all_stacks("abcd", 4):
            if list(dict.fromkeys(stack)) == sorted(set(stack)):
                for target in all_stacks("abcd", 4):
                    self.check(stack, target, most=5)

    def test_random_pairs(self):
        found = {self.check(stack, target) for stack, target, _ in random_pairs(73, 400)}
        self.assertLessEqual({None, 2, 3, 4}, found)
        self.assertGreater(max(found - {None}), 10)

    def test_the_greatest_reaches(self):
        names = letters(40)
        for count in (3, 16, 39, 40):
            self.assertEqual(self.check(("x",) + names[:count], names[:count]), count)
            self.assertEqual(self.check(names[:count], names[:count][::-1]), max(2, count - 1))
        self.assertEqual(self.check(names, names[::-1]), 39)
        self.assertIsNone(self.check(names[1:], names))

    def test_high_stacks(self):
        stack = run(letters(40), [("dup", 40)] * 30, reach=40)
        self.assertEqual(self.check(stack, stack[1:]), 40)
        self.assertEqual(self.check(stack, stack), 2)
        self.assertIsNone(self.check(stack, stack + ("x",)))
        # A reach of 41 would be enough, but there is none.
        self.assertIsNone(self.check(("x",) + letters(41), letters(41)))


class HelpfulPushesTest(unittest.TestCase):
    def check(self, stack, target, reach):
        """Compare with what `reaches` tells for each pushed value."""
        found = helpful_pushes(stack, target, reach=reach)
        self.assertIsInstance(found, list)
        names = sorted(set(stack) | set(target))
        helpful = [name for name in names if reached_by_fact(stack + (name,), target, reach)]
        self.assertEqual(found, [name for name in helpful if name in target])
        self.assertEqual(found, [name for name in sorted(set(target)) if reaches(stack + (name,), target, reach=reach)])
        return found

    def test_small(self):
        self.assertEqual(helpful_pushes(("a", "b", "c"), ("a", "b", "c", "a"), reach=2), ["a"])
        self.assertEqual(helpful_pushes((), ()), [])
        self.assertEqual(helpful_pushes((), ("a",)), ["a"])
        self.assertEqual(helpful_pushes(("a",), ()), [])
        self.assertEqual(helpful_pushes((), ("a", "b")), [])
        self.assertEqual(helpful_pushes(target=("c", "a", "c"), stack=("c", "a"), reach=2), ["a", "c"])

    def test_small_pairs(self):
        told = set()
        for stack in all_stacks("abc", 3):
            for target in all_stacks("abcd", 4):
                told.add(len(self.check(stack, target, 2)))
        self.assertEqual(told, {0, 1, 2, 3})

    def test_random_pairs(self):
        counts = [len(self.check(stack[:39], target, reach)) for stack, target, reach in random_pairs(74, 600)]
        self.assertGreater(max(counts), 5)
        self.assertGreater(counts.count(1), 10)

    def test_the_highest_stack_and_the_default_reach(self):
        stack = letters(39)
        self.assertEqual(self.check(stack, stack + ("z",), 2), ["z"])
        self.assertEqual(self.check(stack, stack[1:], 2), [])
        self.assertEqual(self.check(stack, stack[:38] + ("z",), 40), ["z"])
        self.assertEqual(helpful_pushes(letters(17), letters(17)[::-1] + ("at",)), sorted(letters(17)))
        self.assertEqual(helpful_pushes(letters(18), letters(18)[1:]), [])
        self.assertEqual(helpful_pushes(letters(18), letters(18)[1:], reach=17), sorted(letters(18)[1:]))

    def test_results_belong_to_the_caller(self):
        first = helpful_pushes(("a",), ("a", "a"))
        first.append("x")
        self.assertEqual(helpful_pushes(("a",), ("a", "a")), ["a"])


if __name__ == "__main__":
    unittest.main()
