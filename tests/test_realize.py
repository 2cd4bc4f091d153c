"""[4], [11], [15], [16]: realize, reach_needed and tidied."""

import copy
import random
import unittest

from samples import after, random_shuffle

from deepedge.cards import card_of
from deepedge.instructions import is_shuffle
from deepedge.realize import reach_needed, realize, tidied

POP = ("pop",)


def tidied_by_definition(deeds):
    """The instructions after the replacements, the leftmost possible one first."""
    deeds = list(deeds)
    index = 0
    while index < len(deeds) - 1:
        one, other = deeds[index:index + 2]
        if one[0] == "swap" and one == other or one[0] == "dup" and other == POP:
            del deeds[index:index + 2]
            index = 0
        elif one == ("dup", 1) and other == ("swap", 1):
            del deeds[index + 1]
            index = 0
        else:
            index += 1
    return tuple(deeds)


class RealizeTest(unittest.TestCase):
    def check(self, card):
        made = realize(card)
        self.assertIs(is_shuffle(made), True, card)
        self.assertEqual(card_of(made), card)
        self.assertEqual(realize(card), made)

    def test_small_cards(self):
        for depth in range(5):
            words = [()]
            for _ in range(4):
                for word in words:
                    self.check((depth, word))
                words = [word + (number,) for word in words for number in range(1, depth + 1)]

    def test_nothing(self):
        self.assertEqual(card_of(realize((0, ()))), (0, ()))
        self.check((1, ()))
        self.check((40, ()))

    def test_largest_cards(self):
        generic = tuple(range(1, 41))
        turned = generic[::-1]
        for word in [generic, turned, turned[1:] + turned[:1], (40,) * 40, (1,) * 40, (1, 40) * 20, generic[:1]]:
            self.check((40, word))
            self.check((40, word[:39]))
        self.check((1, (1,) * 40))
        self.check((2, (2,) + (1,) * 39))

    def test_random_cards(self):
        chance = random.Random(11)
        for _ in range(400):
            depth = chance.choice([1, 2, 3, 10, 39, 40])
            word = tuple(chance.randint(1, depth) for _ in range(chance.randrange(41)))
            self.check((depth, word))
        for _ in range(100):
            word = list(range(1, 41))
            chance.shuffle(word)
            self.check((40, tuple(word)))

    def test_by_name(self):
        self.assertEqual(card_of(realize(card=(3, (2, 2)))), (3, (2, 2)))


class ReachNeededTest(unittest.TestCase):
    def test_reaches(self):
        self.assertEqual([reach_needed(), reach_needed((), []), reach_needed(POP), reach_needed(("dup", 1))], [2] * 4)
        self.assertEqual(reach_needed(("dup", 5), POP, ("swap", 3)), 5)
        self.assertEqual(reach_needed([("dup", 3), POP], (("swap", 4),)), 4)
        self.assertEqual([reach_needed(("dup", i)) for i in (2, 3, 40)], [2, 3, 40])
        self.assertEqual([reach_needed(("swap", i)) for i in (2, 3, 40)], [2, 3, 40])

    def test_all_are_valid_for_it_and_not_for_less(self):
        chance = random.Random(12)
        for _ in range(100):
            deeds = random_shuffle(chance, chance.randrange(6), chance.choice([2, 5, 40]))
            reach = reach_needed(*deeds)
            self.assertTrue(is_shuffle(deeds, reach=reach))
            self.assertTrue(reach == 2 or not is_shuffle(deeds, reach=reach - 1))


class TidiedTest(unittest.TestCase):
    def test_each_replacement(self):
        self.assertEqual(tidied(("swap", 2), ("swap", 2)), ())
        self.assertEqual(tidied(("dup", 3), POP), ())
        self.assertEqual(tidied(("dup", 1), ("swap", 1)), (("dup", 1),))
        self.assertEqual(tidied(("swap", 1), ("swap", 1), ("swap", 1)), (("swap", 1),))
        self.assertEqual(tidied(("dup", 1), ("swap", 1), ("swap", 1)), (("dup", 1),))
        self.assertEqual(tidied(("swap", 2), ("dup", 1), ("swap", 1), POP, ("swap", 2), POP), (POP,))
        self.assertEqual(tidied(("dup", 2), ("dup", 1), POP, POP), ())

    def test_what_stays(self):
        for deeds in [
            (), (POP, POP), (("swap", 2), ("swap", 3)), (("dup", 2), ("swap", 1)), (("dup", 1), ("swap", 2)),
            (POP, ("dup", 1)), (("swap", 1), ("dup", 1)), (("swap", 2), POP), (("dup", 1), ("dup", 1)),
        ]:
            self.assertEqual(tidied(deeds), deeds)

    def test_parts(self):
        part = [("swap", 2)]
        self.assertEqual(tidied(part, (("swap", 2), POP), (), ("dup", 3)), (POP, ("dup", 3)))
        self.assertEqual(part, [("swap", 2)])
        self.assertEqual(tidied(), ())

    def test_against_the_definition(self):
        chance = random.Random(13)
        for _ in range(500):
            deeds = random_shuffle(chance, chance.randrange(20), chance.choice([1, 2, 3]))
            before = copy.deepcopy(deeds)
            made = tidied(deeds)
            self.assertEqual(made, tidied_by_definition(deeds))
            self.assertEqual(deeds, before)
            stack = cells = tuple("abcdefghijklmnopqrstuvwxyz")
            for deed in deeds:
                stack = after(stack, deed)
            for deed in made:
                cells = after(cells, deed)
            self.assertEqual(cells, stack)

    def test_600_instructions(self):
        self.assertEqual(tidied([("dup", 1)] * 300, [POP] * 300), ())
        self.assertEqual(tidied([POP] * 600), (POP,) * 600)


if __name__ == "__main__":
    unittest.main()
