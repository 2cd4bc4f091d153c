"""[47], [49]: assemble."""

import copy
import itertools
import random
import unittest

from samples import STRANGE, after, letters, raised_by, reached_by_fact

from deepedge.assembling import assemble
from deepedge.errors import Blocked, InvalidReach, InvalidStack, InvalidStep, Overloaded
from deepedge.judge import decide
from deepedge.running import execute
from deepedge.steps import is_code, live_values


def random_plan(chance, reach, most_steps=12):
    """A start, steps and a target without an error of their own."""
    names = letters(40)
    many = chance.choice([1, 2, 3, 6])
    start = tuple(chance.choice(names[:many]) for _ in range(chance.randrange(1, 8)))
    fresh = chance.sample(names[10:], most_steps)
    steps, known = [], sorted(set(start))
    for result in fresh[:chance.randrange(most_steps + 1)]:
        recent = known[-chance.choice([1, 2, reach, reach + 2]):]
        arguments = tuple(chance.choice(recent) for _ in range(chance.randrange(4)))
        if not steps and chance.random() < 0.7:
            # Many different arguments of the first step may block it.
            arguments = tuple(chance.sample(known, min(3, len(known))))
        steps.append((chance.choice(["f", "add", "call"]), arguments, result))
        known.append(result)
    target = tuple(chance.choice(known[-chance.choice([2, 3]):]) for _ in range(chance.choice([0, 1, 2, 3, 9])))
    return start, tuple(steps), target


class AssembleTestCase(unittest.TestCase):
    def follow(self, start, steps, target, reach):
        """Check the code for the steps instruction by instruction and call by call, and return it."""
        code = assemble(start, steps, target=target, reach=reach)
        self.assertIs(is_code(code, reach=reach), True)
        cells, left = start, list(steps)
        for item in code:
            if item[0] != "call":
                cells = after(cells, item)
                self.assertIsNotNone(cells)
                continue
            operation, arguments, result = left.pop(0)
            self.assertEqual(item, ("call", operation, len(arguments)))
            below = len(cells) - len(arguments)
            self.assertEqual(cells[below:], arguments)
            cells = cells[:below] + (result,)
        self.assertEqual((cells, left), (target, []))
        self.check_execution(code, start, steps, target, reach)
        return code

    def check_execution(self, code, start, steps, target, reach):
        """Compare what `execute` returns with the steps one by one."""
        def mixed(*numbers):
            return sum((at + 2) * number for at, number in enumerate(numbers)) + 1

        worth = {value: index * index + 3 for index, value in enumerate(sorted(set(start)))}
        begun = tuple(worth[value] for value in start)
        for _, arguments, result in steps:
            worth[result] = mixed(*[worth[value] for value in arguments])
        operations = {operation: mixed for operation, _, _ in steps}
        self.assertEqual(execute(code, begun, reach=reach, **operations), tuple(worth[value] for value in target))

    def raises(self, *arguments, **settings):
        """The class and the only attribute of the error that the call raises."""
        before = copy.deepcopy((arguments, settings))
        error = raised_by(assemble, *arguments, **settings)
        self.assertIsNotNone(error, before)
        self.assertEqual((arguments, settings), before)
        return (type(error), *vars(error).values())


class CodeTest(AssembleTestCase):
    def test_small(self):
        steps = (("max", ("a", "b"), "c"), ("pow", ("c", "b"), "d"))
        code = self.follow(("a", "b"), steps, ("d",), 2)
        self.assertEqual(execute(code, (3, 2), reach=2, max=max, pow=pow), (9,))
        self.assertEqual(self.follow(("a",), (("f", (), "b"),), ("b", "a", "b", "b"), 2).count(("call", "f", 0)), 1)
        self.follow(("a",), (("f", ("a", "a", "a"), "b"),), (), 2)
        self.follow((), (("f", (), "b"),), ("b",), 2)

    def test_no_steps(self):
        self.assertEqual(assemble(("a",), ()), (("pop",),))
        self.assertEqual(assemble((), ()), ())
        self.follow(("a", "b", "c"), (), ("c", "a", "a"), 2)
        self.follow(letters(5), (), letters(5), 2)

    def test_twelve_steps(self):
        names = letters(13)
        chain = tuple(("f", (names[index],) * (index % 4), names[index + 1]) for index in range(12))
        self.follow(names[:1], chain, names[12:], 2)
        self.follow(names[:1], chain, names[12:] * 40, 2)
        self.follow(names[:1], chain, names[:1] + names[12:], 2)
        # Each of the results is live until the end.
        tree = tuple(("f", names[index:index + 1], names[index + 1]) for index in range(12))
        self.follow(names[:1], tree, names[::-1], 13)
        self.assertEqual(self.raises(names[:1], tree, target=names[::-1], reach=12), (Overloaded, 11))

    def test_the_stacks_may_be_high(self):
        names = letters(40)
        self.follow(names, (("f", names[:3], "zz"),), names[:39] + ("zz",), 40)
        self.follow(names[:40], (("f", names[37:], "zz"),), ("zz",), 40)
        self.follow(("a",) * 40, (("f", ("a", "a", "a"), "b"),), ("b",) * 40, 2)
        # Without the bottom cells there is more to do, but the arguments are on top.
        self.follow(("p", "q", "a", "b"), (("f", ("p", "b"), "c"),), ("q", "c"), 3)

    def test_a_deep_first_stack(self):
        # The first stack that is needed keeps the cells below its depth, which is 2.
        start = ("a", "b", "c", "d", "e")
        self.follow(start[:3], (("f", ("c", "b", "a"), "d"),), ("a", "d"), 3)
        code = self.follow(("a", "b", "c"), (("f", ("c",), "d"),), ("a", "d"), 2)
        self.assertIn(("call", "f", 1), code)
        self.follow(("a", "b", "c", "d"), (("f", ("b", "c", "d"), "e"),), ("a", "e"), 3)

    def test_random_plans(self):
        chance = random.Random(211)
        told = {}
        for _ in range(4000):
            reach = chance.choice([2, 2, 3, 3, 4, 5, 16, 40])
            start, steps, target = random_plan(chance, reach)
            lives = live_values(steps, target)
            full = [index for index, live in enumerate(lives) if len(live) > reach - 1]
            first = lives[0] + steps[0][1] if steps else target
            if full:
                self.assertEqual(self.raises(start, steps, target=target, reach=reach), (Overloaded, full[0]))
                word = "full"
            elif not reached_by_fact(start, first, reach):
                certificate = decide(start, first, reach=reach)[1]
                self.assertEqual(self.raises(start, steps, target=target, reach=reach), (Blocked, certificate))
                word = "blocked"
            else:
                self.follow(start, steps, target, reach)
                word = "code"
            told[word] = told.get(word, 0) + 1
        self.assertEqual(len(told), 3)
        self.assertGreater(min(told.values()), 30, told)

    def test_the_same_call_returns_the_same(self):
        call = [("a", "b", "c"), (("f", ("c", "a"), "d"), ("g", ("d", "b"), "e"))]
        told = [assemble(*call, target=("e", "d"), reach=3) for _ in range(3)]
        told.append(assemble(reach=3, target=("e", "d"), steps=call[1], start=call[0]))
        self.assertEqual(told, told[:1] * 4)
        self.assertEqual(assemble(*call), assemble(*call, target=(), reach=16))


class OverloadedTest(AssembleTestCase):
    def test_as_many_as_the_reach_allows(self):
        for reach in (2, 3, 7, 16, 39):
            names = letters(reach)
            step = ("f", names[:1], "z")
            self.follow(names, (step,), names[1:] + ("z",), reach)
            self.follow(names, (step, ("g", ("z",), "y")), names[1:] + ("y",), reach)
            self.assertEqual(self.raises(names, (step,), target=names + ("z",), reach=reach), (Overloaded, 0))
            later = (("f", names, "z") if reach < 4 else step, ("g", names[:2], "y"))
            self.assertEqual(self.raises(names, later, target=names, reach=reach), (Overloaded, 0))

    def test_the_first_step(self):
        steps = (("f", ("a",), "c"), ("g", ("b",), "d"), ("h", ("c",), "e"))
        self.assertEqual(self.raises(("a", "b"), steps, target=("c", "d", "e"), reach=2), (Overloaded, 2))
        self.assertEqual(self.raises(("a", "b"), steps, target=("a", "c", "d"), reach=3), (Overloaded, 2))
        self.assertEqual(self.raises(("a", "b"), steps, target=("a", "b", "e"), reach=3), (Overloaded, 1))
        self.assertEqual(self.raises(("a", "b"), steps, target=("b", "a", "e"), reach=2), (Overloaded, 0))
        self.follow(("a", "b"), steps, ("c", "d", "e"), 3)
        self.assertEqual(self.raises(("a", "b", "c"), (("neg", ("a",), "d"),), target=tuple("bcd"), reach=2), (Overloaded, 0))

    def test_ahead_of_a_block(self):
        # The start does not reach the first stack, as its edge is none of these values.
        start = ("x", "a", "b", "c", "d")
        self.assertEqual(self.raises(start, (("f", ("c", "d"), "e"),), target=("a", "b"), reach=2), (Overloaded, 0))
        self.assertEqual(self.raises(start, (("f", ("b", "c", "d"), "e"),), target=("a",), reach=2)[0], Blocked)


class BlockedTest(AssembleTestCase):
    def test_certificates(self):
        start = ("x", "a", "b", "c")
        self.assertEqual(
            self.raises(start, (("f", ("c", "b"), "e"),), target=("a",), reach=2),
            (Blocked, (0, (), "edge", ("a", "b", "c"))),
        )
        self.assertEqual(self.raises(start, (), target=("a", "b", "c"), reach=2), (Blocked, (0, (), "edge", tuple("abc"))))
        self.follow(start, (), ("a", "b", "c"), 3)
        self.follow(start, (("f", ("c", "b"), "e"),), ("a",), 3)

    def test_every_small_target_without_steps(self):
        for target in itertools.product("abc", repeat=4):
            start = ("a", "b", "c")
            if reached_by_fact(start, target, 2):
                self.follow(start, (), target, 2)
            else:
                told = self.raises(start, (), target=target, reach=2)
                self.assertEqual(told, (Blocked, decide(start, target, reach=2)[1]))


class WrongArgumentsTest(AssembleTestCase):
    STEP = ("f", ("a",), "b")

    def test_stacks(self):
        for thing in STRANGE + [letters(40) + ("a",), ("a", "B"), ["a"], "a"]:
            if thing != ("dup",):
                self.assertEqual(self.raises(thing, (self.STEP,)), (InvalidStack, 0))
                self.assertEqual(self.raises(("a",), (self.STEP,), target=thing), (InvalidStack, 1))

    def test_reaches(self):
        for thing in STRANGE + [0, 1, 41]:
            self.assertEqual(self.raises(("a",), (self.STEP,), reach=thing), (InvalidReach, thing))

    def test_steps(self):
        for thing in STRANGE:
            expected = (InvalidStep, 0)
            self.assertEqual(self.raises(("a",), thing), expected)
            self.assertEqual(self.raises(("a",), (self.STEP, thing)), (InvalidStep, 1))
            for step in ((thing, ("a",), "b"), ("f", thing, "b"), ("f", ("a", thing), "b"), ("f", ("a",), thing)):
                self.assertEqual(self.raises(("a",), (step,)), expected)
        self.assertEqual(self.raises(("a",), [self.STEP]), (InvalidStep, 0))
        self.assertEqual(self.raises(("a",), list((self.STEP, 3))), (InvalidStep, 0))

    def test_values_of_steps(self):
        for index, steps in [
            (0, (("f", ("c",), "b"),)), (0, (("f", ("b",), "b"),)), (0, (("f", (), "a"),)), (0, (("f", ("a",), "a"),)),
            (1, (self.STEP, self.STEP)), (1, (self.STEP, ("f", ("c",), "d"), ("f", (), "c"))),
            (1, (self.STEP, ("f", (), "b"))), (2, (self.STEP, ("f", ("b",), "c"), ("g", ("c", "d"), "e"))),
            (1, (self.STEP, ("code", ("a",), "c"))), (1, (self.STEP, ("g", ("c",), "c"), ("code", (), "d"))),
        ]:
            self.assertEqual(self.raises(("a",), steps), (InvalidStep, index), steps)

    def test_twelve_and_thirteen_steps(self):
        names = letters(14)
        steps = tuple(("f", (), name) for name in names)
        self.follow((), steps[:12], (), 2)
        self.assertEqual(self.raises((), steps[:13]), (InvalidStep, 12))
        self.assertEqual(self.raises((), steps), (InvalidStep, 12))
        self.assertEqual(self.raises((), steps[:12] + (3,)), (InvalidStep, 12))
        self.assertEqual(self.raises((), steps[:11] + (3, 4)), (InvalidStep, 11))
        # The thirteenth step counts ahead of the target.
        self.assertEqual(self.raises((), steps[:13], target=("zz",)), (InvalidStep, 12))

    def test_targets(self):
        self.assertEqual(self.raises(("a",), (self.STEP,), target=("a", "c")), (InvalidStep, 1))
        self.assertEqual(self.raises(("a",), (), target=("c",)), (InvalidStep, 0))
        names = letters(12)
        steps = tuple(("f", (), name) for name in names)
        self.assertEqual(self.raises((), steps, target=("zz",)), (InvalidStep, 12))
        self.assertEqual(self.raises(("a",), (("g", ("x",), "y"),), target=("c",)), (InvalidStep, 0))

    def test_order(self):
        wrong = ("f", ("x",), "y")
        self.assertEqual(self.raises([], 3, target=[], reach=0), (InvalidStack, 0))
        self.assertEqual(self.raises((), 3, target=[], reach=0), (InvalidStack, 1))
        self.assertEqual(self.raises((), 3, target=(), reach=0), (InvalidReach, 0))
        self.assertEqual(self.raises((), 3), (InvalidStep, 0))
        self.assertEqual(self.raises(tuple("abc"), (self.STEP[:2] + ("z",), wrong), target=tuple("abc"), reach=2), (InvalidStep, 1))
        self.assertEqual(self.raises(tuple("abc"), (self.STEP[:2] + ("z",),), target=tuple("abcx"), reach=2), (InvalidStep, 1))
        self.assertEqual(self.raises(tuple("abc"), (self.STEP[:2] + ("z",),), target=tuple("abc"), reach=2), (Overloaded, 0))


if __name__ == "__main__":
    unittest.main()
