"""[15], [16], [17]: cards."""

import copy
import random
import unittest

from samples import STRANGE, after, letters, random_shuffle

from deepedge.cards import NOTHING, apply_card, card_of, compose, is_card
from deepedge.errors import TooLow

POP = ("pop",)


def card_by_definition(deeds):
    """The card of the instructions: the first height at which they do not fault."""
    for depth in range(700):
        cells = tuple(range(1, depth + 1))
        for deed in deeds:
            cells = cells if cells is None else after(cells, deed)
        if cells is not None:
            return (depth, cells)
    return None


class CardOfTest(unittest.TestCase):
    def test_small(self):
        self.assertEqual(NOTHING, (0, ()))
        self.assertEqual(card_of(), (0, ()))
        self.assertEqual(card_of((), []), (0, ()))
        self.assertEqual(card_of(("swap", 1)), (2, (2, 1)))
        self.assertEqual(card_of(("swap", 3)), (4, (4, 2, 3, 1)))
        self.assertEqual(card_of(("dup", 3)), (3, (1, 2, 3, 1)))
        self.assertEqual(card_of(POP), (1, ()))
        self.assertEqual(card_of(("dup", 1), POP), (1, (1,)))
        self.assertEqual(card_of(POP, ("dup", 2)), (3, (1, 2, 1)))
        self.assertEqual(card_of([POP, POP], ("swap", 1), (POP,)), (4, (2,)))

    def test_numbers_up_to_40(self):
        generic = tuple(range(1, 42))
        self.assertEqual(card_of(("dup", 40)), (40, generic[:40] + (1,)))
        self.assertEqual(card_of(("swap", 40)), (41, (41,) + generic[1:40] + (1,)))

    def test_600_instructions(self):
        self.assertEqual(card_of([POP] * 600), (600, ()))
        self.assertEqual(card_of([("dup", 1)] * 600), (1, (1,) * 601))
        self.assertEqual(card_of([POP] * 599, ("swap", 40)), (640, (41,) + tuple(range(2, 41)) + (1,)))

    def test_against_the_definition(self):
        chance = random.Random(7)
        for _ in range(300):
            deeds = random_shuffle(chance, chance.randrange(12), chance.choice([1, 2, 5, 40]))
            self.assertEqual(card_of(deeds), card_by_definition(deeds))
            self.assertTrue(is_card(card_of(deeds)))

    def test_parts_stay(self):
        part = [POP, ("dup", 2)]
        card_of(part, ("swap", 1))
        self.assertEqual(part, [POP, ("dup", 2)])


class IsCardTest(unittest.TestCase):
    def test_cards(self):
        for thing in [(0, ()), (1, ()), (1, (1,)), (2, (2, 1)), (3, (3, 3, 3, 3)), (2000, (2000,) * 2000), (2000, ())]:
            self.assertIs(is_card(thing), True, thing)
        self.assertIs(is_card(thing=(0, ())), True)

    def test_limits(self):
        self.assertEqual([is_card((depth, ())) for depth in (-1, 0, 2000, 2001)], [False, True, True, False])
        self.assertEqual([is_card((1, (1,) * length)) for length in (2000, 2001)], [True, False])
        self.assertEqual([is_card((3, (number,))) for number in (-1, 0, 1, 3, 4)], [False, False, True, True, False])
        self.assertEqual([is_card((0, (number,))) for number in (0, 1)], [False, False])

    def test_no_cards(self):
        for thing in STRANGE:
            self.assertIs(is_card(thing), False, thing)
            if thing != []:
                self.assertIs(is_card((thing, ())), False, thing)
                self.assertIs(is_card((1, (1, thing))), False, thing)
            self.assertIs(is_card((1, thing)), False, thing)
        for thing in [
            (), (0,), (0, (), ()), [0, ()], (0, []), (1, [1]), (True, (1,)), (1, (True,)), (False, ()), ((), 0), (1, 1),
            (10 ** 99, ()), (2000, (10 ** 99,)), (2, (1, "1")), (2, (1, None)), "0:", {0: ()}, (2, (1, (1,))),
        ]:
            self.assertIs(is_card(thing), False, thing)


class ApplyTest(unittest.TestCase):
    def test_applies(self):
        stack = ("a", "b", "c")
        self.assertEqual(apply_card(stack, (2, (2, 1, 2))), ("a", "c", "b", "c"))
        self.assertEqual(apply_card(stack, (3, (1,))), ("a",))
        self.assertEqual(apply_card(stack, (3, ())), ())
        self.assertEqual(apply_card(stack, (1, ())), ("a", "b"))
        self.assertEqual(apply_card(stack, NOTHING), stack)
        self.assertEqual(apply_card((), NOTHING), ())
        self.assertEqual(apply_card(stack=stack, card=(1, (1, 1))), ("a", "b", "c", "c"))

    def test_too_low(self):
        for stack, card in [(("a",), (2, (2, 1))), ((), (1, ())), (("a", "b"), (2000, (1,)))]:
            with self.assertRaises(TooLow) as caught:
                apply_card(stack, card)
            self.assertEqual(caught.exception.depth, card[0])

    def test_high_stacks(self):
        stack = tuple(letters(49)) * 60
        word = tuple(range(2000, 0, -1))
        self.assertEqual(apply_card(stack, (2000, word)), stack[:940] + stack[:939:-1])
        self.assertEqual(apply_card(stack[:2000], (2000, (1, 2000) * 1000)), (stack[0], stack[1999]) * 1000)

    def test_does_what_the_shuffle_does(self):
        chance = random.Random(8)
        for _ in range(300):
            deeds = random_shuffle(chance, chance.randrange(10), 6)
            stack = tuple(chance.choice("abcdef") for _ in range(chance.randrange(16)))
            cells = stack
            for deed in deeds:
                cells = cells if cells is None else after(cells, deed)
            card = card_of(deeds)
            if cells is None:
                with self.assertRaises(TooLow):
                    apply_card(stack, card)
            else:
                self.assertEqual(apply_card(stack, card), cells)


class ComposeTest(unittest.TestCase):
    def test_small(self):
        self.assertEqual(compose(), NOTHING)
        self.assertEqual(compose((2, (2, 1))), (2, (2, 1)))
        self.assertEqual(compose((1, ()), (2, (1, 2, 1))), (3, (1, 2, 1)))
        self.assertEqual(compose((2, (2, 1)), (1, ())), (2, (2,)))
        self.assertEqual(compose((1, ()), (2, (2, 1))), (3, (2, 1)))
        self.assertEqual(compose((2, (2, 1)), NOTHING, (2, (2, 1))), (2, (1, 2)))
        self.assertEqual(compose((1, (1, 1)), (3, (3, 1))), (2, (2, 1)))

    def test_against_shuffles(self):
        chance = random.Random(9)
        for _ in range(300):
            parts = [random_shuffle(chance, chance.randrange(6), 5) for _ in range(chance.randrange(4))]
            self.assertEqual(compose(*[card_of(part) for part in parts]), card_of(*parts))

    def test_large(self):
        self.assertEqual(compose((1000, ()), (1000, ())), (2000, ()))
        turned = tuple(range(2000, 0, -1))
        self.assertEqual(compose((2000, turned), (2000, turned)), (2000, turned[::-1]))
        self.assertEqual(compose((0, ()), (1, (1,) * 2000)), (1, (1,) * 2000))
        self.assertEqual(compose(*[(1, ())] * 2000), (2000, ()))

    def test_composition_is_applied_one_after_another(self):
        one, other = (2, (2, 1, 1)), (4, (1, 4, 3))
        stack = ("a", "b", "c", "d")
        self.assertEqual(apply_card(apply_card(stack, one), other), apply_card(stack, compose(one, other)))

    def test_cards_stay(self):
        cards = [(2, (2, 1)), (1, ())]
        before = copy.deepcopy(cards)
        compose(*cards)
        self.assertEqual(cards, before)


if __name__ == "__main__":
    unittest.main()
