"""[4], [10], [11]: instructions, shuffles and parts."""

import copy
import unittest

from samples import STRANGE, instructions

from deepedge.errors import InvalidShuffle
from deepedge.instructions import cells_needed, height_change, is_instruction, is_shuffle, shuffle


class InstructionTest(unittest.TestCase):
    def test_all_instructions(self):
        for thing in instructions(40):
            self.assertIs(is_instruction(thing), True, thing)

    def test_strange(self):
        for thing in STRANGE:
            self.assertIs(is_instruction(thing), False, thing)

    def test_no_instructions(self):
        for thing in [
            (), "pop", ["pop"], ["dup", 1], ("dup", 0), ("swap", 0), ("dup", 41), ("swap", 41), ("dup", -1),
            ("dup", True), ("swap", True), ("dup", False), ("dup", None), ("dup", "1"), ("dup", (1,)), ("dup", 10 ** 99),
            ("Pop",), ("pops",), ("swap",), ("dup",), ("dup", 1, 1), ("pop", 1), ("pop", "pop"), (1, "dup"),
            (("pop",),), (None,), (["dup"], 1), ({}, 1), ("push", "a"), ("call", "a", 1), ("DUP", 1), ("", 1),
        ]:
            self.assertIs(is_instruction(thing), False, thing)

    def test_reach(self):
        for reach in (2, 3, 16, 39, 40):
            for name in ("dup", "swap"):
                told = [is_instruction((name, i), reach=reach) for i in (0, 1, reach, reach + 1)]
                self.assertEqual(told, [False, True, True, False])
            self.assertIs(is_instruction(("pop",), reach=reach), True)

    def test_number_never_above_40(self):
        self.assertIs(is_instruction(("dup", 41), reach=50), False)

    def test_reach_only_by_name(self):
        for function in (is_instruction, is_shuffle):
            with self.assertRaises(TypeError):
                function((), 2)
        self.assertEqual([is_instruction(thing=("pop",)), is_shuffle(thing=())], [True, True])

    def test_needs_and_changes(self):
        self.assertEqual([cells_needed(("pop",)), height_change(("pop",))], [1, -1])
        for number in (1, 2, 39, 40):
            self.assertEqual([cells_needed(("dup", number)), height_change(("dup", number))], [number, 1])
            self.assertEqual([cells_needed(("swap", number)), height_change(("swap", number))], [number + 1, 0])
        self.assertEqual(cells_needed(instruction=("dup", 3)) + height_change(instruction=("dup", 3)), 4)


class IsShuffleTest(unittest.TestCase):
    def test_shuffles(self):
        self.assertIs(is_shuffle(()), True)
        self.assertIs(is_shuffle((("pop",), ("dup", 40), ("swap", 1))), True)

    def test_length(self):
        self.assertEqual([is_shuffle((("pop",),) * n) for n in (599, 600, 601)], [True, True, False])

    def test_no_shuffles(self):
        for thing in STRANGE:
            self.assertIs(is_shuffle(thing), False, thing)
            self.assertIs(is_shuffle((thing,)), False, thing)
            self.assertIs(is_shuffle((("pop",), thing)), False, thing)
        for thing in [("pop",), [("pop",)], [], "pop", ("dup", 1), ((("pop",),),), (["pop"],)]:
            self.assertIs(is_shuffle(thing), False, thing)

    def test_reach(self):
        deeds = (("pop",), ("dup", 2), ("swap", 3))
        self.assertEqual([is_shuffle(deeds, reach=reach) for reach in (2, 3, 4)], [False, True, True])


class ShuffleTest(unittest.TestCase):
    def wrong_index(self, *parts):
        with self.assertRaises(InvalidShuffle) as caught:
            shuffle(*parts)
        return caught.exception.index

    def test_parts(self):
        both = shuffle(("dup", 2), [("swap", 1), ("pop",)], ())
        self.assertEqual(both, (("dup", 2), ("swap", 1), ("pop",)))
        self.assertEqual(shuffle(), ())
        self.assertEqual(shuffle((), [], ()), ())
        self.assertEqual(shuffle(("pop",)), (("pop",),))
        self.assertEqual(shuffle((("pop",),), [("pop",)], ("pop",)), (("pop",),) * 3)
        self.assertEqual(shuffle((("dup", 40), ("swap", 40))), (("dup", 40), ("swap", 40)))
        self.assertIsInstance(shuffle([("pop",)]), tuple)

    def test_wrong_parts(self):
        self.assertEqual(self.wrong_index(("pop",), ("dup", 0)), 1)
        self.assertEqual(self.wrong_index([], (("pop",), ("dup", 41)), None), 1)
        self.assertEqual(self.wrong_index([["pop"]]), 0)
        self.assertEqual(self.wrong_index(["pop"]), 0)
        self.assertEqual(self.wrong_index("pop"), 0)
        self.assertEqual(self.wrong_index(((),)), 0)
        self.assertEqual(self.wrong_index([()]), 0)
        self.assertEqual(self.wrong_index([[("pop",)]]), 0)
        self.assertEqual(self.wrong_index({}), 0)
        self.assertEqual(self.wrong_index((), None), 1)
        self.assertEqual(self.wrong_index(("pop",), ("dup", True)), 1)

    def test_strange_parts(self):
        for thing in STRANGE:
            if thing in ([], [("pop",)]):
                continue
            before = copy.deepcopy(thing)
            self.assertEqual(self.wrong_index(("pop",), [("pop",)], thing), 2, thing)
            self.assertEqual(thing, before)

    def test_most(self):
        self.assertEqual(len(shuffle([("pop",)] * 600)), 600)
        self.assertEqual(len(shuffle((("pop",),) * 300, [("pop",)] * 299, ("pop",))), 600)
        self.assertEqual(self.wrong_index([("pop",)] * 601), 0)
        self.assertEqual(self.wrong_index([("pop",)] * 600, (), ("pop",), None), 2)
        self.assertEqual(self.wrong_index([("pop",)] * 600, None, ("pop",)), 1)
        self.assertEqual(self.wrong_index([("pop",)] * 599 + [None] * 2, ("pop",)), 0)

    def test_later_changes_of_a_part(self):
        part = [("pop",)]
        made = shuffle(part)
        part.append(("dup", 1))
        self.assertEqual(made, (("pop",),))
        self.assertEqual(shuffle(part), (("pop",), ("dup", 1)))
        self.assertEqual(part, [("pop",), ("dup", 1)])


if __name__ == "__main__":
    unittest.main()
