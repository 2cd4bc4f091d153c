"""[4], [11], [12], [27]: descend and never_higher."""

import copy
import itertools
import random
import unittest
from collections import Counter

from samples import STRANGE, after, all_stacks, instructions, letters, raised_by, random_shuffle

from deepedge.building import build
from deepedge.errors import Fault, InvalidWanted, TooMany
from deepedge.machine import run, trace
from deepedge.touched import descend, never_higher


class DescendTest(unittest.TestCase):
    def check(self, stack, height, *keep, reach=16):
        """Check what `descend` returns, by its words, and return it."""
        made = descend(stack, height, *keep, reach=reach)
        self.assertIsInstance(made, tuple)
        if len(stack) <= 40:
            self.assertLessEqual(len(made), 600)
        cells = stack
        for deed in made:
            self.assertIn(deed[0], ("pop", "swap"))
            self.assertIn(deed, instructions(reach))
            cells = after(cells, deed)
        self.assertEqual(len(cells), height, (stack, keep, reach))
        self.assertFalse(Counter(cells) - Counter(stack))
        kept = [value for part in keep for value in ([part] if isinstance(part, str) else part)]
        self.assertLessEqual(set(kept), set(cells), (stack, height, keep, reach))
        return made

    def wrong(self, *arguments, **settings):
        error = raised_by(descend, *arguments, **settings)
        self.assertIs(type(error), InvalidWanted)
        return error.value

    def test_small(self):
        stack = ("a", "b", "c", "d")
        self.assertEqual(sorted(run(stack, descend(stack, 2, "a", "d", reach=2), reach=2)), ["a", "d"])
        self.check((), 0)
        self.check(("a",), 0)
        self.check(("a",), 1, "a")
        self.assertEqual(descend(height=2, stack=("a", "b"), reach=2), ())
        self.assertEqual(descend(stack, 4, "a", "b", reach=2), ())

    def test_all_small_stacks_and_all_heights(self):
        for values, most, reaches in [("ab", 5, (2,)), ("abc", 5, (2, 3)), ("abcd", 4, (2, 3, 4))]:
            for stack in all_stacks(values, most):
                for count in range(len(set(stack)) + 1):
                    for kept in itertools.combinations(sorted(set(stack)), count):
                        for reach, height in itertools.product(reaches, range(count, len(stack) + 1)):
                            if count <= reach:
                                self.check(stack, height, *kept, reach=reach)

    def test_how_values_are_passed(self):
        stack = ("a", "b", "c", "a", "d")
        for keep in [
            (), ([],), ((),), ([], ()), ("a", "a"), (["a", "d"],), (("a", "d"), [], "d"), (["a"], ["a", "a"], "a"),
            ("d", ("a",), [], ()), ([], "b"),
        ]:
            names = {value for part in keep for value in part}
            for height in range(len(names), 6):
                self.check(stack, height, *keep, reach=2)

    def test_the_greatest_number_of_kept_values(self):
        chance = random.Random(61)
        for reach in (2, 3, 16, 39, 40):
            for extra in (0, 1, 5, 24):
                names = letters(40)
                stack = (names[:reach] * 40)[:40 - extra] + names[40 - extra:]
                for _ in range(20):
                    mixed = tuple(chance.sample(stack, len(stack)))
                    kept = chance.sample(sorted(set(mixed)), min(reach, len(set(mixed))))
                    for height in range(len(kept), 41, 6):
                        self.check(mixed, height, *kept, reach=reach)
                        self.check(mixed, height, kept[1:], kept[0], reach=reach)

    def test_kept_values_at_the_top_and_at_the_bottom(self):
        names = letters(40)
        for reach in (2, 16):
            for kept in (names[:reach], names[-reach:], names[:1] + names[1 - reach:]):
                for height in range(reach, 41):
                    self.check(names, height, kept, reach=reach)
        self.check(names, 40, names, reach=40)
        self.check(names, 16, names[:16])

    def test_stacks_of_more_than_40_values(self):
        stack = run(letters(40), [("dup", 40), ("dup", 3)] * 60, reach=40)
        self.assertEqual(len(stack), 160)
        for kept in (letters(40), letters(2), ()):
            for height in (40, 41, 100, 160):
                self.check(stack, height, kept, reach=40)
        self.check(stack, 2, stack[0], stack[-1], reach=2)
        self.assertEqual(self.wrong(stack, 2, "zz"), "zz")

    def test_values_that_are_not_in_the_stack(self):
        self.assertEqual(self.wrong(("a", "b"), 1, "c"), "c")
        self.assertEqual(self.wrong((), 0, "a"), "a")
        self.assertEqual(self.wrong(("a", "b"), 1, "a", ["b", "d", "c"], "e"), "d")
        self.assertEqual(self.wrong(("ab",), 0, "a"), "a")
        for thing in STRANGE:
            before = copy.deepcopy(thing)
            if type(thing) not in (list, tuple):
                self.assertEqual(self.wrong(("a", "b"), 1, "a", thing), thing)
            elif thing and thing != ["a"]:
                first = next(item for item in thing if not (type(item) is str and item in "ab"))
                self.assertEqual(self.wrong(("a", "b"), 1, thing), first)
            self.assertEqual(self.wrong(("a", "b"), 1, ["a", thing], "c"), thing)
            self.assertEqual(self.wrong(("a", "b"), 1, ("a", thing), "c"), thing)
            self.assertEqual(thing, before)

    def test_lists_within_lists(self):
        for inner in (["a"], ("a",), [], (), [["a"]]):
            self.assertEqual(self.wrong(("a", "b"), 1, ["a", inner]), inner)
            self.assertEqual(self.wrong(("a", "b"), 1, (inner, "c")), inner)
        self.assertEqual(self.wrong(("a", "b"), 1, {"a": "a"}), {"a": "a"})

    def test_too_many(self):
        for reach in (2, 16, 39):
            names = letters(reach + 1)
            error = raised_by(descend, names, reach + 1, *names, reach=reach)
            self.assertIs(type(error), TooMany)
            self.assertEqual(error.limit, reach)
            self.assertIs(type(raised_by(descend, names, reach + 1, list(names), names, reach=reach)), TooMany)
            self.check(names, reach, *names[:reach], names[:reach], reach=reach)
        self.assertEqual(raised_by(descend, letters(17), 17, letters(17)).limit, 16)

    def test_invalid_wanted_comes_first(self):
        self.assertEqual(self.wrong(("a", "b", "c"), 3, "a", "b", "c", "d", reach=2), "d")
        self.assertEqual(self.wrong(("a", "b", "c"), 3, ["a", "b", "c", None], reach=2), None)

    def test_arguments_stay(self):
        keep = ["a", "b"]
        made = descend(("a", "b", "c"), 2, keep, reach=2)
        self.assertEqual(keep, ["a", "b"])
        keep.append("c")
        self.assertEqual(descend(("a", "b", "c"), 2, ["a", "b"], reach=2), made)


class NeverHigherTest(unittest.TestCase):
    def test_small(self):
        self.assertEqual(never_higher(("a", "b"), ("dup", 1), ("pop",), ("pop",)), 3)
        self.assertEqual(never_higher(()), 0)
        self.assertEqual(never_higher((), [], ()), 0)
        self.assertEqual(never_higher(("a", "b"), ("pop",)), 2)
        self.assertEqual(never_higher(("a",), [("dup", 1)] * 3, ("pop",)), 4)
        self.assertEqual(never_higher(letters(41), (("swap", 40), ("dup", 40)), [("pop",)]), 42)

    def test_against_trace(self):
        chance = random.Random(62)
        for _ in range(200):
            stack = tuple(chance.choice(letters(40)) for _ in range(chance.randrange(41)))
            deeds = random_shuffle(chance, chance.randrange(12), chance.choice([2, 5, 16, 40]))
            parts = (deeds[:3], list(deeds[3:5]), *deeds[5:])
            error = raised_by(run, stack, *parts, reach=40)
            if error is None:
                heights = [len(cells) for cells in trace(stack, *parts, reach=40)]
                self.assertEqual(never_higher(stack, *parts), max(heights))
            else:
                found = raised_by(never_higher, stack, *parts)
                self.assertEqual((type(found), vars(found)), (Fault, vars(error)))

    def test_faults(self):
        for parts, index, item in [
            ([("pop",), ("pop",)], 1, ("pop",)), ([[("dup", 1), ("dup", 3)]], 1, ("dup", 3)),
            ([("dup", 41)], 0, ("dup", 41)), ([("swap", 1)], 0, ("swap", 1)), ([(), [], ("dup", 2)], 0, ("dup", 2)),
        ]:
            error = raised_by(never_higher, ("a",), *parts)
            self.assertEqual((type(error), error.index, error.instruction), (Fault, index, item))

    def test_strange_parts(self):
        for thing in STRANGE:
            before = copy.deepcopy(thing)
            for parts in ([thing], [("dup", 1), thing], [[("dup", 1), thing]]):
                expected = raised_by(run, ("a",), *parts, reach=40)
                found = raised_by(never_higher, ("a",), *parts)
                self.assertEqual(type(found), type(expected))
                if found is not None:
                    self.assertEqual(vars(found), vars(expected))
            self.assertEqual(thing, before)
        self.assertEqual(raised_by(never_higher, ("a",), None).instruction, None)

    def test_long_shuffles(self):
        stack = run(letters(40), [("dup", 40)] * 600, reach=40)
        deeds = build(stack, stack[::-1], reach=40)
        self.assertGreater(len(deeds), 600)
        self.assertEqual(never_higher(stack, deeds), max([len(cells) for cells in trace(stack, deeds, reach=40)]))


if __name__ == "__main__":
    unittest.main()
