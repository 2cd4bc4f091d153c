"""[17], [18]: comparing shuffles."""

import itertools
import random
import unittest

from samples import after, instructions, random_shuffle

from deepedge.cards import card_of
from deepedge.effects import same_effect, separating_stack

POP = ("pop",)
SHORT = [part for length in range(4) for part in itertools.product(instructions(2), repeat=length)]


def result(stack, deeds):
    """The stack after the instructions, or None if they fault."""
    for deed in deeds:
        if stack is not None:
            stack = after(stack, deed)
    return stack


def least_by_search(one, other, most):
    """The first stack of values a and b, by height and then by order, that separates the two, or None."""
    for height in range(most + 1):
        for stack in itertools.product("ab", repeat=height):
            if result(stack, one) != result(stack, other):
                return stack
    return None


class SameEffectTest(unittest.TestCase):
    def test_small(self):
        self.assertIs(same_effect((("swap", 1), ("swap", 1)), (("dup", 1), POP)), False)
        self.assertIs(same_effect((("swap", 1), ("swap", 1)), (("dup", 2), POP)), True)
        self.assertIs(same_effect((), ()), True)
        self.assertIs(same_effect((), (("dup", 1), POP)), False)
        self.assertIs(same_effect((("dup", 1), ("swap", 1)), (("dup", 1),)), True)
        self.assertIs(same_effect((POP,), (("swap", 1), POP)), False)
        self.assertIs(same_effect(one=(POP,), other=(POP,)), True)

    def test_against_a_search(self):
        chance = random.Random(3)
        for _ in range(400):
            one, other = chance.choice(SHORT), chance.choice(SHORT)
            self.assertIs(same_effect(one, other), least_by_search(one, other, 7) is None, (one, other))


class SeparatingStackTest(unittest.TestCase):
    def test_small(self):
        self.assertEqual(separating_stack((("swap", 1),), (("dup", 2), ("swap", 2), POP)), ("a", "b"))
        self.assertEqual(separating_stack((("dup", 1), POP), ()), ())
        self.assertEqual(separating_stack((), (("dup", 3), POP)), ())
        self.assertIsNone(separating_stack((("swap", 1), ("swap", 1)), (("dup", 2), POP)))
        self.assertIsNone(separating_stack((), ()))
        self.assertEqual(separating_stack(one=(POP,), other=(("dup", 1),)), ("a",))

    def test_different_depths(self):
        self.assertEqual(separating_stack((("swap", 2),), (("dup", 40), POP)), ("a",) * 3)
        self.assertEqual(separating_stack((("dup", 40), POP), (("swap", 2),)), ("a",) * 3)

    def test_different_lengths(self):
        self.assertEqual(separating_stack((("dup", 3), ("dup", 3)), (("swap", 2),)), ("a",) * 3)

    def test_b_at_the_greatest_number_that_moves(self):
        self.assertEqual(separating_stack((("swap", 3),), (("swap", 3), ("swap", 1))), ("a", "a", "b", "a"))
        self.assertEqual(separating_stack((("swap", 3),), (("dup", 4), POP)), ("a", "a", "a", "b"))
        # The greatest number stands in one of the words alone.
        one, other = (("dup", 3), POP, POP, ("dup", 1)), (("dup", 3), POP)
        self.assertEqual((card_of(one), card_of(other)), ((3, (1, 2, 2)), (3, (1, 2, 3))))
        self.assertEqual(separating_stack(one, other), ("a", "a", "b"))
        self.assertEqual(separating_stack(other, one), ("a", "a", "b"))

    def test_against_a_search(self):
        chance = random.Random(4)
        for _ in range(400):
            one, other = chance.choice(SHORT), chance.choice(SHORT)
            self.assertEqual(separating_stack(one, other), least_by_search(one, other, 7), (one, other))

    def test_long_shuffles(self):
        chance = random.Random(6)
        for _ in range(50):
            one = random_shuffle(chance, 300, 40)
            other = one[:150] + (("swap", 1), ("swap", 1)) + one[150:]
            stack = separating_stack(one, other)
            self.assertEqual(stack is None, card_of(one) == card_of(other))
            if stack is not None:
                self.assertNotEqual(result(stack, one), result(stack, other))

    def test_stacks_above_40(self):
        self.assertEqual(separating_stack((POP,) * 600, (POP,) * 599), ("a",) * 599)


if __name__ == "__main__":
    unittest.main()
