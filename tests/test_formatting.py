"""[51], [53]: written forms."""

import copy
import random
import unittest

from samples import all_stacks, instructions, letters, random_shuffle

from deepedge.cards import NOTHING, card_of
from deepedge.formatting import card_text, certificate_text, code_text, shuffle_text, stack_text
from deepedge.judge import decide
from deepedge.machine import run
from deepedge.parsing import parse_card, parse_code, parse_shuffle, parse_stack


class StackTextTest(unittest.TestCase):
    def test_written(self):
        self.assertEqual([stack_text(()), stack_text(("a",)), stack_text(("b", "abcdefgh", "b"))], ["-", "a", "b abcdefgh b"])
        self.assertEqual(stack_text(stack=("a", "b")), "a b")

    def test_read_back(self):
        for stack in list(all_stacks("abc", 4)) + [letters(40), ("abcdefgh",) * 40]:
            self.assertEqual(parse_stack(stack_text(stack)), stack)

    def test_high_stacks(self):
        self.assertEqual(stack_text(run(("a",), [("dup", 1)] * 60)), "a" + " a" * 60)


class ShuffleTextTest(unittest.TestCase):
    def test_written(self):
        self.assertEqual(shuffle_text((("dup", 3), ("pop",), ("swap", 12), ("dup", 40))), "dup3 pop swap12 dup40")
        self.assertEqual([shuffle_text(()), shuffle_text([])], ["-", "-"])

    def test_lists(self):
        deeds = [("dup", 3), ("pop",)]
        self.assertEqual(shuffle_text(instructions=deeds), "dup3 pop")
        self.assertEqual(deeds, [("dup", 3), ("pop",)])

    def test_read_back(self):
        chance = random.Random(231)
        for deeds in [tuple(instructions(40)), (), (("pop",),) * 600] + [random_shuffle(chance, 30, 40) for _ in range(50)]:
            self.assertEqual(parse_shuffle(shuffle_text(deeds)), deeds)
            self.assertEqual(parse_shuffle(shuffle_text(list(deeds))), deeds)

    def test_long_lists(self):
        self.assertEqual(shuffle_text((("pop",),) * 601), "pop" + " pop" * 600)


class CardTextTest(unittest.TestCase):
    def test_written(self):
        self.assertEqual([card_text((3, (1, 2, 1))), card_text((1, ())), card_text(NOTHING)], ["3: 1 2 1", "1: -", "0: -"])
        self.assertEqual(card_text(card=(2000, (2000, 1, 10))), "2000: 2000 1 10")

    def test_read_back(self):
        chance = random.Random(232)
        cards = [card_of(random_shuffle(chance, 40, 40)) for _ in range(50)]
        for card in cards + [NOTHING, (2000, ()), (2000, tuple(range(1, 2001))), (40, (40,) * 2000)]:
            self.assertEqual(parse_card(card_text(card)), card)


class CodeTextTest(unittest.TestCase):
    def test_written(self):
        neg, both = ("call", "neg", 1), ("call", "max", 2)
        for code, text in [
            ((), "-"), ((both,), "max/2"), ((("pop",),), "pop"), ((both, neg), "max/2\nneg/1"),
            ((("swap", 1), both, neg, ("pop",)), "swap1 max/2\nneg/1\npop"),
            ((("pop",), ("dup", 40)), "pop dup40"), ((("call", "pop", 0), ("pop",)), "pop/0\npop"),
            ((("dup", 1), ("dup", 2), both, ("swap", 3), ("pop",), neg), "dup1 dup2 max/2\nswap3 pop neg/1"),
            ((both,) * 3 + (("pop",),) * 2, "max/2\nmax/2\nmax/2\npop pop"),
        ]:
            self.assertEqual(code_text(code), text)
            self.assertEqual(code_text(code=code), text)

    def test_read_back(self):
        chance = random.Random(233)
        items = instructions(40) + [("call", name, count) for name in ("f", "abcdefgh", "pop") for count in range(4)] * 5
        for length in list(range(8)) * 20 + [900]:
            code = tuple(chance.choice(items) for _ in range(length))
            text = code_text(code)
            self.assertEqual(parse_code(text), code)
            self.assertEqual(code_text(parse_code(text)), text)


class CertificateTextTest(unittest.TestCase):
    def test_written(self):
        for certificate, text in [
            ((2, ("a", "b", "c"), "ground", 1), "floor 2, witnesses a b c: ground 1"),
            ((2, ("a", "b", "c"), "ground", 0), "floor 2, witnesses a b c: ground 0"),
            ((0, (), "missing", "abc"), "floor 0, witnesses -: missing abc"),
            ((0, (), "edge", ("b", "c", "d")), "floor 0, witnesses -: edge b c d"),
            ((12, ("a", "b", "c"), "edge", ("b", "c", "d")), "floor 12, witnesses a b c: edge b c d"),
            ((3, ("a", "b", "c"), "missing", "c"), "floor 3, witnesses a b c: missing c"),
        ]:
            before = copy.deepcopy(certificate)
            self.assertEqual(certificate_text(certificate), text)
            self.assertEqual(certificate_text(certificate=certificate), text)
            self.assertEqual(certificate, before)

    def test_of_decide(self):
        text = certificate_text(decide(("p",) + letters(40), ("p",) + letters(40) + ("q",), reach=2)[1])
        last = " ".join(sorted(letters(40)[38:] + ("q",)))
        self.assertEqual(text, f"floor 39, witnesses {last}: missing q")


if __name__ == "__main__":
    unittest.main()
