"""[30], [31]: shortest shuffles and their certificates."""

import functools
import itertools
import random
import unittest

from samples import after, all_stacks, instructions, letters, raised_by, reached_by_fact, search_layers

from deepedge.errors import Blocked, TooMany
from deepedge.judge import decide
from deepedge.layercheck import check_layers
from deepedge.layers import shortest
from deepedge.machine import run


@functools.cache
def leads(stack, target, reach, length):
    """Whether so many instructions may turn the stack into the target."""
    if length == 0:
        return stack == target
    made = [after(stack, deed) for deed in instructions(reach)]
    return any(cells is not None and leads(cells, target, reach, length - 1) for cells in made)


def least_shuffle(stack, target, reach):
    """The least of the shortest shuffles: the first instruction that still leads to the target, again and again."""
    length = 0
    while not leads(stack, target, reach, length):
        length += 1
    deeds = []
    for left in reversed(range(length)):
        for deed in instructions(reach):
            cells = after(stack, deed)
            if cells is not None and leads(cells, target, reach, left):
                break
        deeds.append(deed)
        stack = cells
    return tuple(deeds)


class ShortestTest(unittest.TestCase):
    def test_small(self):
        self.assertEqual(shortest(("a", "b"), ("b", "a"), reach=2), ((("swap", 1),), ((("a", "b"),),)))
        self.assertEqual(shortest((), ()), ((), ()))
        self.assertEqual(shortest(("a", "b"), ("a", "b"), reach=2, limit=1), ((), ()))
        self.assertEqual(shortest(("a",), ()), ((("pop",),), ((("a",),),)))
        self.assertEqual(shortest(target=("a", "a"), stack=("a",), limit=5), ((("dup", 1),), ((("a",),),)))
        layers = ((("a", "b"),), (("a",), ("a", "b", "a"), ("a", "b", "b"), ("b", "a")))
        self.assertEqual(shortest(("a", "b"), (), reach=2), ((("pop",), ("pop",)), layers))

    def test_the_least_of_several(self):
        self.assertEqual(shortest(("a", "a"), ("a", "a", "a"))[0], (("dup", 1),))
        self.assertEqual(shortest(("a", "b", "a"), ("a", "b", "a", "a"))[0], (("dup", 1),))
        self.assertEqual(shortest(("a", "b", "a"), ("a", "a"), reach=2)[0], (("swap", 1), ("pop",)))
        self.assertEqual(shortest(("a", "a", "b"), ("a", "b"), reach=2)[0], (("swap", 1), ("pop",)))

    def test_all_shuffles_of_the_length(self):
        for stack in all_stacks("abc", 3):
            for target in all_stacks("ab", 3):
                if not reached_by_fact(stack, target, 2):
                    continue
                deeds = shortest(stack, target, reach=2)[0]
                if len(deeds) <= 3:
                    every = itertools.product(instructions(2), repeat=len(deeds))
                    self.assertEqual(deeds, next(s for s in every if raised_by(run, stack, s) is None and run(stack, s) == target))

    def check(self, stack, target, reach):
        """Compare with a search by layers, and return the number of stacks in the certificate."""
        deeds, layers = shortest(stack, target, reach=reach)
        self.assertEqual(deeds, least_shuffle(stack, target, reach), (stack, target, reach))
        self.assertEqual(run(stack, deeds, reach=reach), target)
        self.assertEqual(layers, search_layers(stack, reach, len(deeds))[:-1])
        self.assertIn(target, search_layers(stack, reach, len(deeds))[-1])
        self.assertEqual(check_layers(stack, target, layers, reach=reach), len(deeds))
        return sum(len(layer) for layer in layers)

    def test_small_pairs(self):
        told = set()
        for values, reach, most in [("ab", 2, 3), ("ab", 3, 3), ("abc", 2, 3)]:
            stacks = list(all_stacks(values, most))
            for stack in [s for s in stacks if list(dict.fromkeys(s)) == sorted(set(s))]:
                for target in stacks:
                    if reached_by_fact(stack, target, reach):
                        self.check(stack, target, reach)
                    else:
                        error = raised_by(shortest, stack, target, reach=reach)
                        self.assertEqual((type(error), error.certificate), (Blocked, decide(stack, target, reach=reach)[1]))
                        told.add(error.certificate[2])
        self.assertEqual(told, {"missing"})

    def test_random_pairs_and_limits(self):
        chance = random.Random(71)
        lengths = set()
        for _ in range(120):
            stack = tuple(chance.choice("abcde") for _ in range(chance.randrange(6)))
            target = tuple(chance.choice(stack or "a") for _ in range(chance.randrange(6)))
            reach = chance.choice([2, 2, 3, 16, 40])
            if not reached_by_fact(stack, target, reach):
                continue
            error = raised_by(shortest, stack, target, reach=reach)
            if error is not None:
                self.assertEqual((type(error), error.limit), (TooMany, 500))
                continue
            lengths.add(len(shortest(stack, target, reach=reach)[0]))
            count = self.check(stack, target, reach)
            full = shortest(stack, target, reach=reach)
            if count > 0:
                self.assertEqual(shortest(stack, target, reach=reach, limit=count), full)
            if count > 1:
                error = raised_by(shortest, stack, target, reach=reach, limit=count - 1)
                self.assertEqual((type(error), error.limit), (TooMany, count - 1))
        self.assertLessEqual({0, 1, 2, 3, 4}, lengths)

    def test_the_limit_1(self):
        error = raised_by(shortest, ("a", "b"), ("b", "a", "b"), limit=1)
        self.assertEqual((type(error), error.limit), (TooMany, 1))
        self.assertEqual(shortest(("a", "b"), ("a", "b", "a"), limit=1)[0], (("dup", 2),))
        self.assertEqual(shortest(("a", "b"), ("a", "b"), limit=1)[0], ())

    def test_the_limit_500(self):
        stack = ("a", "b", "c", "d", "e")
        told = set()
        for target in itertools.permutations(stack):
            layers = search_layers(stack, 4, 5)
            found = next((j for j, layer in enumerate(layers) if target in layer), None)
            count = sum(len(layer) for layer in layers[:found])
            error = raised_by(shortest, stack, target, reach=4)
            self.assertEqual(type(error), TooMany if count > 500 else type(None), target)
            told.add(type(error))
            if count > 500:
                self.assertEqual(error.limit, 500)
        self.assertEqual(told, {TooMany, type(None)})

    def test_blocked_comes_first(self):
        stack, target = ("a", "b", "c", "d"), ("b", "c", "d")
        for limit in (1, 2, 500):
            error = raised_by(shortest, stack, target, reach=2, limit=limit)
            self.assertEqual((type(error), error.certificate), (Blocked, (0, (), "edge", ("b", "c", "d"))))
        error = raised_by(shortest, (), ("a",))
        self.assertEqual((type(error), error.certificate), (Blocked, (0, (), "missing", "a")))

    def test_high_stacks(self):
        stack = run(letters(40), ("dup", 1), reach=2)
        self.assertEqual(shortest(stack, stack[:-1], reach=40), ((("pop",),), ((stack,),)))
        deeds, layers = shortest(stack, stack + stack[1:3], reach=40)
        self.assertEqual(deeds, (("dup", 40), ("dup", 40)))
        self.assertEqual(layers, search_layers(stack, 40, 1))
        self.assertEqual([len(layer) for layer in layers], [1, 79])
        error = raised_by(shortest, stack, (), reach=40)
        self.assertEqual((type(error), error.limit), (TooMany, 500))

    def test_the_default_reach(self):
        stack = letters(18)
        self.assertEqual(shortest(stack, stack + stack[2:3])[0], (("dup", 16),))
        self.assertEqual(shortest(stack, stack + stack[1:2], reach=17)[0], (("dup", 17),))
        self.assertIs(type(raised_by(shortest, stack, stack + stack[1:2])), Blocked)

    def test_same_again(self):
        first = shortest(("a", "b", "c"), ("c", "a", "b"), reach=2)
        self.assertEqual(shortest(("a", "b", "c"), ("c", "a", "b"), reach=2), first)
        self.assertIsInstance(first[1], tuple)


if __name__ == "__main__":
    unittest.main()
