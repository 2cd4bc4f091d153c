"""[2], [3], [33]: renamed and raised."""

import copy
import random
import unittest

from samples import STRANGE, all_stacks, letters, raised_by, random_pairs, reached_by_fact

from deepedge.errors import InvalidStack
from deepedge.judge import reaches
from deepedge.machine import run
from deepedge.renaming import raised, renamed


class RenamedTest(unittest.TestCase):
    def wrong(self, stack, **names):
        error = raised_by(renamed, stack, **names)
        self.assertIs(type(error), InvalidStack)
        return error.index

    def test_small(self):
        self.assertEqual(renamed(("a", "b", "a"), a="x", b="a"), ("x", "a", "x"))
        self.assertEqual(renamed(()), ())
        self.assertEqual(renamed((), a="b"), ())
        self.assertEqual(renamed(("a", "b")), ("a", "b"))
        self.assertEqual(renamed(stack=("a", "b"), b="a"), ("a", "a"))
        self.assertEqual(renamed(("a", "b", "c"), a="b", b="c", c="a"), ("b", "c", "a"))

    def test_all_at_once(self):
        for stack in all_stacks("abc", 4):
            expected = tuple({"a": "b", "b": "a", "c": "a"}[value] for value in stack)
            self.assertEqual(renamed(stack, a="b", b="a", c="a"), expected)

    def test_names_that_functions_use_themselves(self):
        for name in ("self", "names", "value", "index", "reach", "key", "args", "kwargs", "lambda", "class"):
            self.assertEqual(renamed((name, "a"), **{name: "x"}), ("x", "a"))
        self.assertEqual(renamed(("stack", "a"), a="b"), ("stack", "b"))

    def test_values_that_are_no_values(self):
        self.assertEqual(self.wrong(("a", "b"), b=0), 1)
        for thing in STRANGE + ["abcdefghi", "a1", "aB", ("a",)]:
            before = copy.deepcopy(thing)
            self.assertEqual(self.wrong(("a", "b", "c", "b"), b=thing), 1)
            self.assertEqual(self.wrong(("a", "b", "c", "b"), c="x", a=thing, b=thing), 0)
            self.assertEqual(self.wrong(("a", "b", "c", "b"), b="x", c=thing), 2)
            self.assertEqual(thing, before)

    def test_the_least_index(self):
        self.assertEqual(self.wrong(("a", "b", "c"), c=1, b=None), 1)
        self.assertEqual(self.wrong(letters(40), **{letters(40)[39]: ""}), 39)

    def test_what_replaces_nothing_is_not_looked_at(self):
        for thing in STRANGE:
            self.assertEqual(renamed(("a", "b"), c=thing, a="b"), ("b", "b"))
            self.assertEqual(renamed((), a=thing), ())
            self.assertEqual(renamed(("a",), a="b", b=thing), ("b",))
            self.assertEqual(renamed(("a",), **{"": thing, "A": thing, "x y": thing}), ("a",))

    def test_renaming_keeps_reaching(self):
        chance = random.Random(75)
        for stack, target, reach in random_pairs(75, 300):
            names = {value: chance.choice(letters(6)) for value in set(stack + target)}
            if reached_by_fact(stack, target, reach):
                self.assertIs(reaches(renamed(stack, **names), renamed(target, **names), reach=reach), True)

    def test_high_stacks(self):
        stack = run(letters(40), ("dup", 1), reach=2)
        self.assertEqual(renamed(stack, **{stack[-1]: "x"}), stack[:39] + ("x", "x"))
        self.assertEqual(self.wrong(("a",) * 40 + ("b",), b=0), 40)


class RaisedTest(unittest.TestCase):
    def test_small(self):
        self.assertEqual(raised(("p",), ("a", "b"), ()), [("p", "a", "b"), ("p",)])
        self.assertEqual(raised((), ("a",), (), ("a",)), [("a",), (), ("a",)])
        self.assertEqual(raised(bottom=()), [])

    def test_a_bottom_below_no_stack(self):
        for bottom in ((), ("a",), letters(40), letters(41)):
            self.assertEqual(raised(bottom), [])

    def test_the_greatest_height(self):
        for low in (0, 1, 20, 39, 40):
            bottom = letters(low)
            for height in (39 - low, 40 - low, 41 - low):
                if height < 0:
                    continue
                stack = ("x",) * height
                for stacks in ((stack,), ((), stack), (stack, ())):
                    if low + height <= 40:
                        self.assertEqual(raised(bottom, *stacks), [bottom + upper for upper in stacks])
                        continue
                    error = raised_by(raised, bottom, *stacks)
                    self.assertEqual((type(error), error.index), (InvalidStack, 40))

    def test_high_stacks(self):
        for bottom, stacks in [((), [letters(41)]), (letters(41), [()]), (letters(41), [("a",), ()]), ((), [(), letters(41)])]:
            error = raised_by(raised, bottom, *stacks)
            self.assertEqual((type(error), error.index), (InvalidStack, 40))

    def test_raising_keeps_reaching(self):
        for stack, target, reach in random_pairs(76, 300, most=20):
            if reached_by_fact(stack, target, reach):
                for bottom in (("x",), stack, target):
                    self.assertIs(reaches(*raised(bottom, stack, target), reach=reach), True)

    def test_results_belong_to_the_caller(self):
        first = raised(("p",), ("a",))
        first.append(())
        first[0] = None
        self.assertEqual(raised(("p",), ("a",)), [("p", "a")])


if __name__ == "__main__":
    unittest.main()
