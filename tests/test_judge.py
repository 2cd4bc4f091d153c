"""[5], [6], [7], [22], [23], [24]: reaches, equivalent and decide."""

import itertools
import random
import unittest

from samples import all_stacks, depth_by_definition, found_by_search, letters, random_pairs, reached_by_fact

from deepedge.blocked import check_blocked
from deepedge.floors import floors
from deepedge.judge import decide, equivalent, reaches
from deepedge.machine import run


def blocked_by_definition(stack, target, reach):
    """The certificate that [24] demands, by its words, for a pair that is not reached."""
    floor = depth_by_definition(target, reach)
    above = sorted(set(target[floor:]))
    witnesses = tuple(above[:reach + 1]) if floor else ()
    for index in range(floor):
        if stack[index:index + 1] != target[index:index + 1]:
            return (floor, witnesses, "ground", index)
    for value in above:
        if value not in stack[floor:]:
            return (floor, witnesses, "missing", value)
    return (floor, witnesses, "edge", tuple([value for value in above if value != stack[floor]][:reach + 1]))


class SearchTest(unittest.TestCase):
    def compare(self, values, reach, most):
        """Compare with a search over all instructions, for all stacks up to this height."""
        # Renaming a value changes nothing [7]: the values of a start appear in their order.
        starts = [s for s in all_stacks(values, most) if list(dict.fromkeys(s)) == sorted(set(s))]
        targets = list(all_stacks(values, most))
        for stack in starts:
            # By [7] one cell more than the two need is enough; here is another one.
            found = found_by_search(stack, reach, most + 2)
            for target in targets:
                told = reaches(stack, target, reach=reach)
                self.assertIs(told, target in found, (stack, target, reach))

    def test_reach_2_of_three_values(self):
        self.compare("abc", 2, 4)

    def test_reach_2_of_four_values(self):
        self.compare("abcd", 2, 4)

    def test_reach_3_of_four_values(self):
        self.compare("abcd", 3, 4)

    def test_reach_2_of_higher_stacks(self):
        for stack in ["abcab", "abcda", "aabcd", "abcde", "ababc", "pabcd"]:
            found = found_by_search(tuple(stack), 2, 7)
            for target in itertools.product(sorted(set(stack)), repeat=5):
                self.assertIs(reaches(tuple(stack), target, reach=2), target in found, (stack, target))


class ReachesTest(unittest.TestCase):
    def test_small(self):
        stack = ("a", "b", "c", "d")
        self.assertIs(reaches(stack, ("b", "c", "c"), reach=2), True)
        self.assertIs(reaches(stack, ("b", "c", "d"), reach=2), False)
        self.assertIs(reaches(stack, ("b", "c", "d")), True)
        self.assertIs(reaches((), ()), True)
        self.assertIs(reaches((), ("a",)), False)
        self.assertIs(reaches(stack, ()), True)
        self.assertIs(reaches(stack=("a",), target=("a", "a"), reach=2), True)

    def test_random_pairs(self):
        told = []
        for stack, target, reach in random_pairs(31, 1500):
            told.append(reaches(stack, target, reach=reach))
            self.assertIs(told[-1], reached_by_fact(stack, target, reach))
        self.assertGreater(min(told.count(True), told.count(False)), 200)

    def test_a_stack_reaches_itself_and_what_instructions_make_of_it(self):
        self.assertIs(reaches(letters(40), letters(40), reach=2), True)
        chance = random.Random(33)
        stack = letters(5) * 130
        made = run(stack, [("pop",), ("dup", 3), ("dup", 2), ("swap", 3)] * 100, reach=3)
        self.assertIs(reaches(stack, made, reach=3), True)
        for _ in range(50):
            low, high = sorted(chance.sample(range(len(made)), 2))
            self.assertIs(reaches(stack, made[:high], reach=3), reached_by_fact(stack, made[:high], 3))

    def test_greater_reaches(self):
        for stack, target, reach in random_pairs(32, 300, most=12):
            told = [reaches(stack, target, reach=wider) for wider in range(2, 41)]
            self.assertEqual(told, sorted(told))


class EquivalentTest(unittest.TestCase):
    def test_small(self):
        self.assertIs(equivalent(("a", "b", "c"), ("c", "a", "b"), reach=2), True)
        self.assertIs(equivalent(("a", "b"), ("a",)), False)
        self.assertIs(equivalent(("a",), ("a", "b")), False)
        self.assertIs(equivalent((), ()), True)
        self.assertIs(equivalent(("a", "b", "c", "d"), ("b", "a", "c", "d"), reach=2), False)
        self.assertIs(equivalent(one=("a",), other=("a", "a"), reach=2), True)

    def test_against_reaches(self):
        stacks = list(all_stacks("abc", 3))
        for one in stacks:
            for other in stacks:
                both = reaches(one, other, reach=2) and reaches(other, one, reach=2)
                self.assertIs(equivalent(one, other, reach=2), both)


class DecideTest(unittest.TestCase):
    def test_small(self):
        stack = ("a", "b", "c", "d")
        self.assertEqual(decide(stack, ("b", "c", "d"), reach=2), ("blocked", (0, (), "edge", ("b", "c", "d"))))
        deep = ("p", "a", "b", "c")
        blocked = ("blocked", (2, ("a", "b", "c"), "missing", "a"))
        self.assertEqual(decide(deep, deep + ("a",), reach=2), blocked)
        self.assertEqual(decide(deep, deep + ("a",), reach=3), ("reached", 0))
        self.assertEqual(decide(deep, ("q",), reach=2), ("blocked", (0, (), "missing", "q")))
        self.assertEqual(decide(deep, deep, reach=2), ("reached", 1))
        self.assertEqual(decide((), ()), ("reached", 0))

    def test_ground(self):
        target = ("p", "q", "a", "b", "c")
        witnesses = ("a", "b", "c")
        for stack, index in [((), 0), (("p",), 1), (("p", "x", "a", "b", "c"), 1), (("q", "p", "a", "b", "c"), 0)]:
            self.assertEqual(decide(stack, target, reach=2), ("blocked", (2, witnesses, "ground", index)))

    def test_the_first_reason_and_the_least_detail(self):
        target = ("p", "c", "b", "a")
        self.assertEqual(decide(("q",), target, reach=2), ("blocked", (1, ("a", "b", "c"), "ground", 0)))
        self.assertEqual(decide(("p", "x", "c"), target, reach=2), ("blocked", (1, ("a", "b", "c"), "missing", "a")))
        blocked = ("blocked", (1, ("a", "b", "c"), "edge", ("a", "b", "c")))
        self.assertEqual(decide(("p", "x", "c", "a", "b"), target, reach=2), blocked)
        self.assertEqual(decide(stack=("p",), target=target, reach=2)[1][2:], ("missing", "a"))

    def test_small_pairs(self):
        stacks = list(all_stacks("abc", 4))
        for stack in stacks:
            for target in stacks:
                self.check(stack, target, 2)

    def test_random_pairs(self):
        reasons = [self.check(*pair) for pair in random_pairs(34, 3000)]
        for reason in ("ground", "missing", "edge", None):
            self.assertGreater(reasons.count(reason), 20, reason)

    def check(self, stack, target, reach):
        answer = decide(stack, target, reach=reach)
        if reached_by_fact(stack, target, reach):
            self.assertEqual(answer, ("reached", floors(stack, target, reach=reach)[0]))
            return None
        self.assertEqual(answer, ("blocked", blocked_by_definition(stack, target, reach)))
        self.assertIs(check_blocked(stack, target, answer[1], reach=reach), True)
        return answer[1][2]

    def test_high_stacks(self):
        stack = letters(41)
        self.assertEqual(decide(stack, stack[1:]), ("blocked", (23, tuple(sorted(stack[24:])), "ground", 0)))
        self.assertEqual(decide(stack[1:] * 2, stack[1:] * 20, reach=40), ("reached", 0))
        self.assertEqual(decide(stack * 2, stack + stack[2:], reach=39), ("reached", 1))
        self.assertEqual(decide(stack[1:], stack, reach=40)[1][2:], ("missing", stack[0]))
        self.assertEqual(decide(("x",) + stack, stack, reach=40), ("blocked", (0, (), "edge", tuple(sorted(stack)))))


if __name__ == "__main__":
    unittest.main()
