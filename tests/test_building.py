"""[4], [7], [26], [27]: build and building_steps."""

import copy
import random
import unittest

from samples import STRANGE, after, all_stacks, letters, random_pairs, reached_by_fact

from deepedge.building import build, building_steps
from deepedge.errors import Blocked, NoFloor
from deepedge.floors import depth_of, floors
from deepedge.instructions import is_instruction
from deepedge.judge import decide
from deepedge.machine import run, untouched


class BuildTestCase(unittest.TestCase):
    def check(self, stack, target, reach, floor=None):
        """Check what `build` returns against [26] and return it."""
        made = build(stack, target, reach=reach, floor=floor)
        self.assertIsInstance(made, tuple)
        self.assertLessEqual(len(made), 4 * reach * (len(stack) + len(target) + 2))
        if len(stack) <= 40 and len(target) <= 40:
            self.assertLessEqual(len(made), 600)
        low = depth_of(target, reach=reach) if floor is None else floor
        cells, most = stack, len(stack)
        for deed in made:
            self.assertTrue(is_instruction(deed, reach=reach), (stack, target, reach, deed))
            lowest = len(cells) - (1 if deed[0] == "pop" else deed[1] + (deed[0] == "swap"))
            self.assertGreaterEqual(lowest, low, (stack, target, reach, floor))
            cells = after(cells, deed)
            most = max(most, len(cells))
        self.assertEqual(cells, target)
        self.assertLessEqual(most, max(len(stack), len(target)) + 1)
        self.assertGreaterEqual(untouched(stack, made, reach=reach), low)
        return made

    def blocked(self, function, *arguments, **settings):
        with self.assertRaises(Blocked) as caught:
            function(*arguments, **settings)
        return caught.exception.certificate

    def no_floor(self, *arguments, **settings):
        with self.assertRaises(NoFloor) as caught:
            build(*arguments, **settings)
        return caught.exception.floor


class BuildTest(BuildTestCase):
    def test_small(self):
        start, target = ("a", "b", "c", "d"), ("a", "d", "d")
        self.assertEqual(run(start, build(start, target, reach=2), reach=2), ("a", "d", "d"))
        self.check((), (), 2)
        self.check(("a",), (), 2)
        self.check(letters(40), (), 2)
        self.check(("a",), ("a",) * 40, 2)
        self.check(stack=("a", "b"), target=("b", "a"), reach=2)

    def test_all_small_pairs(self):
        for values, reach, most in [("ab", 2, 5), ("abc", 2, 4), ("abcd", 3, 3), ("abcd", 2, 4)]:
            stacks = list(all_stacks(values, most))
            # Renaming changes nothing: the values of a start appear in their order.
            for stack in [s for s in stacks if list(dict.fromkeys(s)) == sorted(set(s))]:
                for target in stacks:
                    if reached_by_fact(stack, target, reach):
                        self.check(stack, target, reach)
                    else:
                        found = self.blocked(build, stack, target, reach=reach)
                        self.assertEqual(("blocked", found), decide(stack, target, reach=reach))

    def test_random_pairs_and_each_floor(self):
        blocked = 0
        for stack, target, reach in random_pairs(51, 600):
            found = floors(stack, target, reach=reach)
            if found == []:
                blocked += 1
                certificate = decide(stack, target, reach=reach)[1]
                self.assertEqual(self.blocked(build, stack, target, reach=reach), certificate)
                self.assertEqual(self.blocked(build, stack, target, reach=reach, floor=0), certificate)
                continue
            made = self.check(stack, target, reach)
            self.assertEqual(build(stack, target, reach=reach), made)
            for floor in found:
                self.check(stack, target, reach, floor)
            for floor in [found[0] - 1, found[-1] + 1, 41]:
                self.assertEqual(self.no_floor(stack, target, reach=reach, floor=floor), floor)
        self.assertGreater(blocked, 50)

    def test_full_heights(self):
        for reach in (2, 3, 16, 38, 39, 40):
            names = letters(reach + 1)
            for shift in range(0, reach + 1, max(1, reach // 4)):
                turned = names[shift:] + names[:shift]
                target = (turned + turned[1:] * 40)[:40]
                stack = (names * 40)[:40]
                if reached_by_fact(stack, target, reach):
                    self.check(stack, target, reach)
                    self.check(names[:reach], (names[:reach][::-1] * 20)[:40], reach)
                    self.check(stack, names[:reach], reach)

    def test_the_edge(self):
        for reach in (2, 5, 16, 39):
            names = letters(reach + 1)
            for bottom in ((), ("x",), ("x", names[0], "y")):
                for place in range(reach + 1):
                    above = names[1:place + 1] + names[:1] + names[place + 1:]
                    stack, target = bottom + names, bottom + above
                    self.check(stack[:40], stack[:40], reach)
                    if len(stack) <= 40:
                        self.check(stack, target, reach)
                        self.check(stack + names[:40 - len(stack)], target, reach)

    def test_what_is_right_is_left_alone(self):
        for height in (0, 1, 2, 16):
            self.assertEqual(build(letters(height), letters(height)), ())
        self.assertEqual(build(("a", "b", "c"), ("b", "a", "c")), (("swap", 1), ("swap", 2), ("swap", 1)))
        self.assertEqual(build(("a",), ("a", "a")), (("dup", 1),))
        self.assertEqual(build(("a", "b"), ("a",)), (("pop",),))

    def test_floor_0_of_a_deep_pair(self):
        stack = ("a", "b", "c", "d")
        self.assertEqual(floors(stack, ("a", "b", "b", "c"), reach=2), [0, 1])
        for floor in (None, 0, 1):
            self.check(stack, ("a", "b", "b", "c"), 2, floor)

    def test_high_stacks(self):
        chance = random.Random(52)
        for reach in (2, 5, 40):
            stack = run(letters(reach), [("dup", reach)] * 600, reach=reach)
            target = tuple(chance.choice(stack) for _ in range(300))
            self.check(stack, target, reach)
            self.check(target[:41] * 3, (target[:41] * 20)[:700], reach)
            for floor in (1, 20, 40):
                self.check(stack, stack[:100] + stack[60:], reach, floor)

    def test_default_reach(self):
        self.assertEqual(self.blocked(build, letters(18), letters(18)[1:]), decide(letters(18), letters(18)[1:])[1])
        made = build(letters(17), letters(17)[::-1])
        self.assertEqual(run(letters(17), made), letters(17)[::-1])

    def test_arguments_stay(self):
        stack, target = ("a", "b"), ("b", "a", "b")
        build(stack, target)
        self.assertEqual((stack, target), (("a", "b"), ("b", "a", "b")))


class ErrorTest(BuildTestCase):
    def test_blocked(self):
        self.assertEqual(self.blocked(build, ("a", "b"), ("c",)), (0, (), "missing", "c"))
        self.assertEqual(self.blocked(build, (), ("a",), reach=2), (0, (), "missing", "a"))

    def test_blocked_comes_before_no_floor(self):
        for floor in [*STRANGE, 0, 1, 7]:
            self.assertEqual(self.blocked(build, ("a", "b"), ("c",), floor=floor), (0, (), "missing", "c"))

    def test_no_floor(self):
        self.assertEqual(self.no_floor(("a", "b"), ("b",), floor=1), 1)
        stack = ("a", "b", "c", "d")
        for floor in (0, 2, 3, 4, 5, -1):
            self.assertEqual(self.no_floor(stack, stack, reach=2, floor=floor), floor)
        self.check(stack, stack, 2, 1)

    def test_strange_floors(self):
        stack = ("a",) * 20
        for thing in STRANGE + [[0], (0,), "0", "1"]:
            if thing is None:
                continue
            before = copy.deepcopy(thing)
            self.assertEqual(self.no_floor(stack, stack, floor=thing), thing)
            self.assertEqual(thing, before)
        for floor in range(4):
            self.check(stack, stack, 16, floor)
        # Not even where 0 and 1 are floors.
        self.assertIs(self.no_floor(stack, stack, floor=False), False)
        self.assertIs(self.no_floor(stack, stack, floor=True), True)


class BuildingStepsTest(BuildTestCase):
    def test_same_as_build(self):
        start, target = ("a", "b", "c"), ("c", "a")
        self.assertEqual(tuple(building_steps(start, target)), build(start, target))
        for stack, target, reach in random_pairs(53, 200):
            for floor in [None, *floors(stack, target, reach=reach)][:3]:
                if reached_by_fact(stack, target, reach):
                    steps = tuple(building_steps(stack=stack, target=target, reach=reach, floor=floor))
                    self.assertEqual(steps, build(stack=stack, target=target, reach=reach, floor=floor))

    def test_is_a_generator(self):
        steps = building_steps(("a", "b"), ("b", "a"))
        self.assertIs(iter(steps), steps)
        made = build(("a", "b"), ("b", "a"))
        self.assertEqual(next(steps), made[0])
        self.assertEqual(tuple(steps), made[1:])

    def test_errors_come_with_the_first_instruction(self):
        steps = building_steps(("a", "b"), ("c",), floor=1)
        self.assertEqual(self.blocked(next, steps), (0, (), "missing", "c"))
        for floor in (1, True, "0", []):
            steps = building_steps(("a", "b"), ("b",), floor=floor)
            with self.assertRaises(NoFloor) as caught:
                next(steps)
            self.assertEqual(caught.exception.floor, floor)


if __name__ == "__main__":
    unittest.main()
