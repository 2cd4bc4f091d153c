"""[6], [7], [36], [37]: count_targets, target_index, target_at and targets."""

import copy
import itertools
import math
import random
import unittest

from samples import STRANGE, all_stacks, letters, listed_targets, raised_by, random_stacks, reached_by_fact

from deepedge.errors import Blocked, NoMember
from deepedge.judge import decide, reaches
from deepedge.machine import run
from deepedge.targets import count_targets, target_at, target_index, targets
from deepedge.words import surjections


def count_by_formula(stack, height, reach):
    """The number of the targets by the words of [37]."""
    def surj(length, count):
        return surjections(length, count) if length >= 0 else 0

    different = [len(set(stack[index:])) for index in range(len(stack))] + [0]
    total = sum(math.comb(different[0], j) * surj(height, j) for j in range(reach + 1))
    for floor in range(len(stack)):
        total += math.comb(different[floor] - 1, reach) * (reach + 1) * surj(height - floor - 1, reach)
    return total


class TargetsTestCase(unittest.TestCase):
    def no_member(self, *arguments, **settings):
        error = raised_by(target_at, *arguments, **settings)
        self.assertIs(type(error), NoMember)
        return error.index

    def check(self, stack, height, reach):
        """Compare all four functions with the list of all words that are reached, and return how many these are."""
        words = listed_targets(stack, height, reach)
        self.assertEqual(list(targets(stack, height, reach=reach)), words, (stack, height, reach))
        self.assertEqual(count_targets(stack, height, reach=reach), len(words))
        self.assertEqual(count_by_formula(stack, height, reach), len(words))
        for index in range(0, len(words), 1 + len(words) // 25):
            self.assertEqual(target_at(stack, height, index, reach=reach), words[index])
            self.assertEqual(target_index(stack, words[index], reach=reach), index)
        for index in (-1, len(words), len(words) + 1, 10 ** 30):
            self.assertEqual(self.no_member(stack, height, index, reach=reach), index)
        return len(words)


class SmallTest(TargetsTestCase):
    def test_small(self):
        stack = ("a", "b", "c")
        self.assertEqual([count_targets(stack, 4, reach=2), count_targets(stack, 4, reach=2, beginning=("a",))], [63, 21])
        self.assertEqual([target_index(stack, ("b", "a", "a"), reach=2), target_at(stack, 3, 9, reach=2)], [9, ("b", "a", "a")])
        self.assertEqual(self.no_member(stack, 3, 27, reach=2), 27)
        self.assertEqual(list(targets(("b", "a"), 1)), [("a",), ("b",)])

    def test_all_small_stacks(self):
        for values, reach, most, heights in [("ab", 2, 4, 5), ("abc", 2, 4, 5), ("abcd", 2, 4, 4), ("abcd", 3, 3, 4)]:
            for stack in all_stacks(values, most):
                # Which letters they are does not matter, but their order does: both ends are taken.
                if list(dict.fromkeys(stack)) in (sorted(set(stack)), sorted(set(stack), reverse=True)):
                    for height in range(heights + 1):
                        self.check(stack, height, reach)

    def test_higher_stacks(self):
        deep = 0
        for stack in random_stacks(81, 60, "abcde", 9):
            for reach in (2, 3, len(set(stack)) or 2, 40):
                for height in (0, 1, 4, 5):
                    deep += self.check(stack, height, max(2, reach)) not in (0, len(set(stack)) ** height)
        for stack in [("a", "b", "c", "d", "e"), ("a", "b", "a", "c", "d", "e"), ("b", "b", "c", "a", "d", "e")]:
            self.check(stack, 6, 2)
            self.check(stack, 7, 3)
        self.assertGreater(deep, 30)

    def test_the_empty_stack_and_the_height_0(self):
        for reach in (2, 16, 40):
            self.assertEqual([self.check((), height, reach) for height in (0, 1, 2, 60)], [1, 0, 0, 0])
            for stack in (("a",), ("a", "b", "c"), letters(40)):
                self.assertEqual(self.check(stack, 0, reach), 1)
                self.assertEqual(target_index(stack, (), reach=reach), 0)
                self.assertEqual(target_at(stack, 0, 0, reach=reach), ())

    def test_values_sort_as_strings(self):
        stack = ("b", "ab", "a", "abc", "aa")
        self.check(stack, 3, 2)
        self.check(stack[::-1], 4, 3)
        self.assertEqual(list(targets(("b", "ab"), 1)), [("ab",), ("b",)])


class BeginningTest(TargetsTestCase):
    def test_all_beginnings(self):
        chance = random.Random(82)
        for stack in random_stacks(83, 40, "abcde", 7):
            reach, height = chance.choice([2, 2, 3, 5]), chance.randrange(6)
            words = listed_targets(stack, height, reach)
            some = [tuple(chance.choice("abcdez") for _ in range(chance.randrange(height + 3))) for _ in range(20)]
            for begun in some + [stack[:count] for count in range(height + 2)] + words[::40]:
                found = count_targets(stack, height, reach=reach, beginning=begun)
                self.assertEqual(found, sum(word[:len(begun)] == begun for word in words), (stack, height, begun))

    def test_edges(self):
        stack = ("a", "b", "c")
        self.assertEqual(count_targets(stack, 2, reach=2, beginning=("a", "b", "c")), 0)
        self.assertEqual(count_targets(stack, 2, reach=2, beginning=("a", "b")), 1)
        self.assertEqual(count_targets(stack, 3, beginning=("z",)), 0)
        self.assertEqual(count_targets(stack, 3, beginning=("a", "z")), 0)
        self.assertEqual(count_targets(stack, 0, beginning=()), 1)
        self.assertEqual(count_targets(stack, 0, beginning=("a",)), 0)
        self.assertEqual(count_targets((), 1, beginning=("a",)), 0)
        self.assertEqual(count_targets(stack, 3, beginning=letters(41)), 0)
        four = ("a", "b", "c", "d")
        self.assertEqual(count_targets(four, 4, reach=2, beginning=four), 1)
        self.assertEqual(count_targets(four, 4, reach=2, beginning=("b", "a", "c", "d")), 0)

    def test_that_beginnings_add_up(self):
        for stack, reach in [(letters(40), 16), (letters(7) * 5, 5), (letters(40)[::-1], 39), (letters(6) + letters(3), 2)]:
            for height in (1, 20, 60):
                begun = ()
                for cell in stack[:3]:
                    whole = count_targets(stack, height, reach=reach, beginning=begun)
                    parts = [
                        count_targets(stack, height, reach=reach, beginning=begun + (value,))
                        for value in sorted(set(stack)) if len(begun) < height
                    ]
                    self.assertTrue(sum(parts) == whole or len(begun) == height)
                    begun += (cell,)


class GreatTest(TargetsTestCase):
    def test_the_formula(self):
        chance = random.Random(84)
        stacks = [letters(40), letters(5) * 8, ("a",), letters(16), letters(17), letters(2) + letters(38)]
        stacks += list(random_stacks(85, 10, letters(40), 40))
        for stack in stacks:
            for reach in (2, 16, 39, 40, max(2, len(set(stack))), chance.randrange(2, 41)):
                for height in (0, 1, 5, reach, min(60, reach + 1), 41, 59, 60):
                    self.assertEqual(count_targets(stack, height, reach=reach), count_by_formula(stack, height, reach))

    def test_a_wide_reach_reaches_all_words(self):
        for count in (1, 2, 16, 39, 40):
            for height in (0, 1, 16, 60):
                self.assertEqual(count_targets(letters(count), height, reach=max(2, count)), count ** height)

    def test_indexes_at_great_heights(self):
        chance = random.Random(86)
        for stack in [letters(6), ("a", "b", "c", "a", "b", "d", "e"), letters(5) * 8, ("q", "r") * 20, ("a",) * 40]:
            for reach, height in itertools.product((2, 3, 6, 16, 40), (1, 12, 40)):
                count = count_targets(stack, height, reach=reach)
                for index in {0, count - 1, count // 2, chance.randrange(count), chance.randrange(count)}:
                    target = target_at(stack, height, index, reach=reach)
                    self.assertEqual(len(target), height)
                    self.assertIs(reached_by_fact(stack, target, reach), True)
                    self.assertEqual(target_index(stack, target, reach=reach), index)
                self.assertEqual(self.no_member(stack, height, count, reach=reach), count)

    def test_first_and_last(self):
        stack = letters(40)
        self.assertEqual(target_index(stack, (stack[0],) * 40, reach=2), 0)
        count = count_targets(stack, 40, reach=2)
        self.assertEqual(target_index(stack, (stack[39],) * 40, reach=2), count - 1)
        self.assertEqual(target_index(stack, stack[::-1], reach=40), sum((39 - i) * 40 ** (39 - i) for i in range(40)))

    def test_indexes_with_40_different_values(self):
        stack = letters(40)
        for reach in (2, 16, 39):
            for target in (stack, stack[:39] + stack[39:] * 3, stack[:20] + stack[20:21] * 20):
                self.assertIs(reaches(stack, target, reach=reach), True)
                index = target_index(stack, target, reach=reach)
                self.assertEqual(target_at(stack, len(target), index, reach=reach), target)
                following = target_at(stack, len(target), index + 1, reach=reach)
                self.assertGreater(following, target)
                self.assertEqual(target_index(stack, following, reach=reach), index + 1)

    def test_stacks_of_more_than_40_values(self):
        stack = run(letters(5), [("dup", 5)] * 90, reach=5)
        for height in (3, 60):
            self.assertEqual(count_targets(stack, height, reach=4), count_by_formula(stack, height, 4))
        target = stack[:55] + stack[:1]
        self.assertIs(reaches(stack, target, reach=4), True)
        index = target_index(stack, target, reach=4)
        self.assertEqual(target_at(stack, 56, index, reach=4), target)
        self.assertEqual(target_index(stack, stack, reach=5), target_index(stack[:10], stack, reach=5))


class ErrorTest(TargetsTestCase):
    def test_strange_indexes(self):
        self.assertEqual(target_at(("a", "b"), 2, 1), ("a", "b"))
        self.assertEqual(target_at(("a", "b"), 2, 0), ("a", "a"))
        for thing in STRANGE + ["1", "0", [1], (1,), (0,), {0: 0}, {1}]:
            before = copy.deepcopy(thing)
            found = self.no_member(("a", "b"), 2, thing)
            self.assertEqual((type(found), found), (type(thing), thing))
            self.assertEqual(thing, before)
        self.assertIs(self.no_member(("a",), 1, False), False)
        self.assertEqual(self.no_member((), 1, 0), 0)
        self.assertEqual(self.no_member((), 0, 1), 1)

    def test_blocked(self):
        blocked = 0
        for stack in all_stacks("abc", 4):
            for target in itertools.chain(all_stacks("abcd", 3), [("d", "a", "b", "c"), ("a", "b", "c", "a")]):
                kind, found = decide(stack, target, reach=2)
                error = raised_by(target_index, stack, target, reach=2)
                if kind == "reached":
                    self.assertIsNone(error)
                else:
                    blocked += 1
                    self.assertEqual((type(error), error.certificate), (Blocked, found))
        self.assertGreater(blocked, 1000)
        error = raised_by(target_index, letters(18), letters(18)[1:])
        self.assertEqual(error.certificate, decide(letters(18), letters(18)[1:])[1])


class GeneratorTest(TargetsTestCase):
    def test_is_a_generator(self):
        stack = letters(40)
        every = targets(stack, 60)
        self.assertIs(iter(every), every)
        first = [next(every) for _ in range(300)]
        self.assertEqual(first, sorted(first))
        self.assertEqual(first[0], stack[:1] * 60)
        self.assertEqual(first[:40], [stack[:1] * 59 + (value,) for value in stack])
        for target in first[::20]:
            self.assertEqual(len(target), 60)
            self.assertIs(reached_by_fact(stack, target, 16), True)

    def test_two_generators_in_turn(self):
        expected = listed_targets(("a", "b", "c", "d"), 4, 2)
        one, other = targets(("a", "b", "c", "d"), 4, reach=2), targets(("a", "b", "c", "d"), 4, reach=2)
        third = targets(("c", "d"), 4)
        found, seen, mixed = [], [], []
        for target in one:
            found.append(target)
            mixed.extend(itertools.islice(third, 1))
            seen.extend(itertools.islice(other, len(found) % 3))
        self.assertEqual(found, expected)
        self.assertEqual(mixed, listed_targets(("c", "d"), 4, 16))
        self.assertEqual(seen + list(other), expected)

    def test_results_belong_to_the_caller(self):
        first = list(targets(("a", "b"), 2))
        first.clear()
        self.assertEqual(len(list(targets(("a", "b"), 2))), 4)


class ArgumentTest(TargetsTestCase):
    def test_names_and_defaults(self):
        stack = letters(18)
        self.assertEqual(count_targets(height=18, beginning=stack[1:3], stack=stack), count_targets(stack, 18, reach=16, beginning=stack[1:3]))
        self.assertNotEqual(count_targets(stack, 18), count_targets(stack, 18, reach=17))
        self.assertEqual(count_targets(stack, 18), count_targets(stack, 18, reach=16, beginning=()))
        self.assertEqual(target_index(target=stack, stack=stack), target_index(stack, stack, reach=16))
        self.assertNotEqual(target_index(stack, stack), target_index(stack, stack, reach=17))
        index = target_index(stack, stack)
        self.assertEqual(target_at(index=index, stack=stack, height=18), stack)
        self.assertEqual(list(targets(reach=2, height=3, stack=("a", "b"))), list(targets(("a", "b"), 3, reach=2)))
        self.assertEqual(next(targets(height=2, stack=stack)), stack[:1] * 2)


if __name__ == "__main__":
    unittest.main()
