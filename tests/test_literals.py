"""[7], [60] to [62]: run_with, reaches_with, decide_with and build_with."""

import copy
import itertools
import random
import unittest

from samples import STRANGE, after, all_stacks, instructions, letters, raised_by, random_pairs, random_shuffle

from deepedge.errors import Blocked, Fault
from deepedge.instructions import is_instruction
from deepedge.judge import decide, reaches
from deepedge.literalbuild import build_with
from deepedge.literalcheck import check_with
from deepedge.literals import decide_with, reaches_with, run_with
from deepedge.machine import run


def depth_with(target, constants, reach):
    """The f of [61]."""
    floor = 0
    while len(set(target[floor + 1:]) - set(constants)) > reach:
        floor += 1
    return floor


def reached_with_fact(stack, target, constants, reach):
    """Whether the stack reaches the target with the constants, by [61]."""
    floor = depth_with(target, constants, reach)
    values = set(target[floor:]) - set(constants)
    return (
        stack[:floor] == target[:floor] and values <= set(stack[floor:])
        and (len(values) <= reach or stack[floor] in values)
    )


def search_with(stack, constants, reach, most):
    """All stacks that literal instructions make of the stack, without a height above `most`."""
    seen, fresh = {stack}, [stack]
    while fresh:
        made = [after(cells, deed) for cells in fresh for deed in instructions(reach)]
        made += [cells + (value,) for cells in fresh for value in constants]
        fresh = list({cells for cells in made if cells is not None and len(cells) <= most} - seen)
        seen.update(fresh)
    return seen


def random_cases(seed, count):
    """Stacks, targets, constants and reaches, many of which have something in common."""
    chance = random.Random(seed)
    for stack, target, reach in random_pairs(seed, count):
        # Many constants that the target has leave little that can be blocked.
        pool = chance.choice([["const", "z"], sorted(set(stack + target)) + ["const", "z"]])
        constants = tuple(chance.choice(pool) for _ in range(chance.choice([0, 1, 1, 2, 3, 40])))
        for _ in range(chance.choice([0, 0, 3])):
            if target and constants:
                place = chance.randrange(len(target))
                target = target[:place] + (chance.choice(constants),) + target[place + 1:]
        yield stack, target, constants, reach
        # A low target with about as many values as the reach: the edge may block it.
        names = letters(6)
        low = tuple(chance.sample(names, chance.choice([3, 4])))
        yield names, low, tuple(chance.sample(names, chance.choice([0, 1, 1]))), 2


class RunWithTest(unittest.TestCase):
    def fault(self, *arguments, **settings):
        error = raised_by(run_with, *arguments, **settings)
        self.assertIs(type(error), Fault, arguments)
        return (error.index, error.instruction)

    def test_small(self):
        self.assertEqual(run_with(("a",), ("push", "k"), ("swap", 1), constants=("k",)), ("k", "a"))
        self.assertEqual(run_with((), ("push", "k"), constants=("j", "k", "j")), ("k",))
        self.assertEqual(run_with(("a",)), ("a",))
        self.assertEqual(run_with((), [("push", "k")], (("push", "j"), ("dup", 2)), (), constants=("k", "j"), reach=2), ("k", "j", "k"))
        self.assertEqual(run_with(constants=("k",), reach=2, stack=("a",)), ("a",))

    def test_no_constants(self):
        self.assertEqual(self.fault(("a",), ("push", "b"), constants=("k",)), (0, ("push", "b")))
        self.assertEqual(self.fault(("a",), ("push", "a")), (0, ("push", "a")))
        self.assertEqual(self.fault(("a",), ("dup", 1), [("push", "k"), ("push", "a")], constants=("k",)), (2, ("push", "a")))

    def test_as_run(self):
        chance = random.Random(301)
        for _ in range(300):
            stack = letters(chance.randrange(5))
            deeds = random_shuffle(chance, chance.randrange(8), 3)
            reach = chance.choice([2, 3])
            error = raised_by(run, stack, deeds, reach=reach)
            if error is None:
                self.assertEqual(run_with(stack, deeds, reach=reach, constants=("k",)), run(stack, deeds, reach=reach))
            else:
                told = self.fault(stack, deeds, reach=reach, constants=("k",))
                self.assertEqual(told, (error.index, error.instruction))

    def test_a_push_needs_no_cell_and_no_reach(self):
        deeds = [("push", "k")] * 50
        self.assertEqual(run_with((), deeds, constants=("k",), reach=2), ("k",) * 50)
        self.assertEqual(run_with(letters(40), deeds, constants=("k",), reach=40), letters(40) + ("k",) * 50)
        self.assertEqual(run_with((), *deeds, ("dup", 16), ("swap", 16), constants=("k",)), ("k",) * 51)
        self.assertEqual(self.fault((), deeds, ("dup", 17), constants=("k",)), (50, ("dup", 17)))

    def test_strange_items(self):
        for thing in STRANGE:
            before = copy.deepcopy(thing)
            self.assertEqual(self.fault(("a",) * 50, [("push", "k"), thing], constants=("k",)), (1, thing))
            self.assertEqual(self.fault((), [("push", thing)], constants=("k",)), (0, ("push", thing)))
            self.assertEqual(thing, before)
        for wrong in [
            ("push",), ("push", "k", "k"), ("push", 1), ("push", None), ("push", ("k",)), ("push", ["k"]), ("Push", "k"),
            ["push", "k"], ("k", "push"), ("push", "K"), ("push", True), ("dup", "k"), ("pop", "k"), "push",
        ]:
            self.assertEqual(self.fault((), ("push", "k"), [wrong], constants=("k",)), (1, wrong))

    def test_parts(self):
        self.assertEqual(self.fault((), ["push", "k"], constants=("k",)), (0, "push"))
        self.assertEqual(run_with((), [("push", "k"), ("push", "k")], ("pop",), constants=("k",)), ("k",))


class DecideWithTest(unittest.TestCase):
    def check(self, stack, target, constants, reach):
        """Check what is told of the pair by the words of [61] and [62], and return it."""
        told = decide_with(stack, target, constants=constants, reach=reach)
        expected = reached_with_fact(stack, target, constants, reach)
        self.assertIs(reaches_with(stack, target, constants=constants, reach=reach), expected)
        self.assertEqual(told, self.by_the_words(stack, target, constants, reach))
        if expected:
            self.follow(stack, target, constants, reach)
        else:
            error = raised_by(build_with, stack, target, constants=constants, reach=reach)
            self.assertEqual((type(error), error.certificate), (Blocked, told[1]))
            self.assertIs(check_with(stack, target, told[1], constants=constants, reach=reach), True)
        return told

    def by_the_words(self, stack, target, constants, reach):
        floor = depth_with(target, constants, reach)
        values = sorted(set(target[floor:]) - set(constants))
        first = tuple(values[:reach + 1])
        differs = [at for at in range(floor) if at >= len(stack) or stack[at] != target[at]]
        missing = [value for value in values if value not in stack[floor:]]
        if differs:
            found = ("ground", differs[0])
        elif missing:
            found = ("missing", missing[0])
        elif len(values) > reach and stack[floor] not in values:
            found = ("edge", first)
        else:
            return ("reached", floor)
        return ("blocked", (floor, first if floor else (), *found))

    def follow(self, stack, target, constants, reach):
        made = build_with(stack, target, constants=constants, reach=reach)
        self.assertIsInstance(made, tuple)
        self.assertLessEqual(len(made), 600)
        cells = stack
        for deed in made:
            if deed[0] == "push":
                self.assertEqual(len(deed), 2)
                self.assertIn(deed[1], constants)
                cells += (deed[1],)
            else:
                self.assertTrue(is_instruction(deed, reach=reach))
                cells = after(cells, deed)
            self.assertIsNotNone(cells)
        self.assertEqual(cells, target, (stack, constants, reach))
        self.assertEqual(run_with(stack, made, constants=constants, reach=reach), target)

    def test_small(self):
        stack = ("a", "b", "c", "d")
        self.assertIs(reaches_with(stack, ("b", "c", "d"), reach=2), False)
        self.assertIs(reaches_with(stack, ("b", "c", "d"), constants=("d",), reach=2), True)
        self.assertEqual(decide_with(("a",), ("b", "k"), constants=("k",)), ("blocked", (0, (), "missing", "b")))
        self.check(stack, ("b", "d", "c", "d"), ("d",), 2)
        self.check((), ("a", "b", "c"), ("a", "b", "c"), 2)
        self.check((), (), (), 2)
        self.check(stack, (), ("a",), 2)

    def test_small_pairs_against_a_search(self):
        told = {True: 0, False: 0}
        targets = list(all_stacks("abcd", 4))
        # Renaming changes nothing: the values of a start appear in their order.
        starts = [cells for cells in targets if list(dict.fromkeys(cells)) == sorted(set(cells))]
        starts = [cells for cells in starts if set(cells) == set("abcd"[:len(set(cells))])]
        for stack in starts:
            for constants in [(), ("a",), ("b",), ("c",), ("d",), ("a", "b"), ("b", "c"), ("c", "d", "c"), tuple("abcd")]:
                found = search_with(stack, constants, 2, 5)
                for target in targets:
                    reached = target in found
                    self.assertIs(reaches_with(stack, target, constants=constants, reach=2), reached, (stack, target, constants))
                    told[reached] += 1
        self.assertGreater(min(told.values()), 1000, told)

    def test_small_pairs(self):
        for stack in all_stacks("abc", 3):
            for target in all_stacks("abcd", 3):
                for constants in [(), ("d",), ("a",), ("c", "b"), ("e", "e")]:
                    self.check(stack, target, constants, 2)

    def test_random_pairs(self):
        told = {}
        for stack, target, constants, reach in random_cases(302, 1500):
            found = self.check(stack, target, constants, reach)
            word = found[0] if found[0] == "reached" else found[1][2]
            if word != "reached" and found[1][0]:
                word += " above"
            told[word] = told.get(word, 0) + 1
        expected = {"reached", "missing", "edge", "ground above", "missing above", "edge above"}
        self.assertEqual(set(told), expected, told)
        self.assertGreater(min(told.values()), 10, told)

    def test_without_constants(self):
        for stack, target, reach in random_pairs(303, 500):
            for settings in ({}, {"constants": ()}, {"constants": ("const", "const")}):
                told = decide_with(stack, target, reach=reach, **settings)
                self.assertEqual(told, decide(stack, target, reach=reach))
                self.assertIs(reaches_with(stack, target, reach=reach, **settings), reaches(stack, target, reach=reach))

    def test_order_and_duplicates_of_constants(self):
        for stack, target, constants, reach in random_cases(304, 300):
            told = decide_with(stack, target, constants=constants, reach=reach)
            other = tuple(sorted(set(constants), reverse=True))
            self.assertEqual(decide_with(stack, target, constants=other, reach=reach), told)
            self.assertEqual(decide_with(stack, target, constants=(other + other)[:40], reach=reach), told)

    def test_more_constants_never_hurt(self):
        for stack, target, constants, reach in random_cases(305, 300):
            if reaches_with(stack, target, constants=constants[:-1], reach=reach):
                self.assertTrue(reaches_with(stack, target, constants=constants, reach=reach))
            self.assertTrue(reaches_with(stack, target, constants=target, reach=reach))

    def test_all_values_are_constants(self):
        chance = random.Random(306)
        for _ in range(200):
            names = letters(chance.choice([1, 3, 40]))
            target = tuple(chance.choice(names) for _ in range(chance.randrange(41)))
            stack = tuple(chance.choice(names) for _ in range(chance.randrange(41)))
            self.assertEqual(self.check(stack, target, target, chance.choice([2, 16, 40])), ("reached", 0))

    def test_full_heights(self):
        for reach in (2, 3, 16, 38, 39, 40):
            names = letters(min(40, reach + 1))
            stack = (names * 40)[:40]
            for constants in [(), names[:1], names[-1:], names[1:3], ("x", "y"), names[::2]]:
                for shift in range(0, len(names), max(1, reach // 4)):
                    turned = names[shift:] + names[:shift]
                    for target in [(turned + turned[1:] * 40)[:40], (turned[::-1] * 40)[:40], ((turned + constants) * 40)[:40]]:
                        self.check(stack, target, constants, reach)
                        self.check(names, target, constants, reach)
                        self.check(stack, target[:reach], constants, reach)

    def test_high_stacks(self):
        chance = random.Random(307)
        for reach in (2, 5, 40):
            stack = run(letters(reach), [("dup", reach)] * 60, reach=reach)
            target = tuple(chance.choice(stack + ("k", "j")) for _ in range(50))
            self.check(stack, target, ("k", "j"), reach)
            self.check(stack, stack + ("k",), ("k",), reach)
            self.assertEqual(run_with(stack, ("push", "k"), constants=("k",)), stack + ("k",))

    def test_by_name_and_defaults(self):
        call = {"stack": ("a", "b", "c", "d"), "target": ("b", "d", "c", "d"), "constants": ("d",), "reach": 2}
        for function in (reaches_with, decide_with, build_with):
            told = [function(**{name: call[name] for name in order}) for order in itertools.permutations(call)]
            self.assertEqual(told, told[:1] * 24)
            self.assertEqual(function(call["stack"], call["target"], constants=("d",), reach=2), told[0])
        names = letters(18)
        self.assertEqual([reaches_with(names, names[2:]), reaches_with(names, names[1:])], [True, False])
        self.assertEqual(decide_with(names, names[1:])[1][2], "edge")
        self.assertEqual(raised_by(build_with, names, names[1:]).certificate, decide(names, names[1:])[1])


if __name__ == "__main__":
    unittest.main()
