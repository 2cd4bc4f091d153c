"""[4], [11], [12]: run, trace, lowest_height and untouched."""

import copy
import random
import unittest

from samples import STRANGE, after, letters, random_shuffle

from deepedge.errors import Fault
from deepedge.machine import lowest_height, run, trace, untouched

POP = ("pop",)


def touched_cells(height, deeds):
    """The indexes of all cells that the instructions read, move or remove."""
    cells = set()
    for deed in deeds:
        if deed[0] == "pop":
            cells.add(height - 1)
            height -= 1
        elif deed[0] == "dup":
            cells.add(height - deed[1])
            height += 1
        else:
            cells.update([height - 1, height - 1 - deed[1]])
    return cells


class RunTest(unittest.TestCase):
    def fault(self, function, *arguments, **settings):
        with self.assertRaises(Fault) as caught:
            function(*arguments, **settings)
        return (caught.exception.index, caught.exception.instruction)

    def test_each_instruction(self):
        stack = ("a", "b", "c", "d")
        self.assertEqual(run(stack, POP), ("a", "b", "c"))
        self.assertEqual(run(stack, ("dup", 1)), ("a", "b", "c", "d", "d"))
        self.assertEqual(run(stack, ("dup", 4)), ("a", "b", "c", "d", "a"))
        self.assertEqual(run(stack, ("swap", 1)), ("a", "b", "d", "c"))
        self.assertEqual(run(stack, ("swap", 3)), ("d", "b", "c", "a"))

    def test_needs(self):
        self.assertEqual(self.fault(run, (), POP), (0, POP))
        self.assertEqual(self.fault(run, (), ("dup", 1)), (0, ("dup", 1)))
        self.assertEqual(self.fault(run, ("a",), ("swap", 1)), (0, ("swap", 1)))
        self.assertEqual(run(("a",), ("dup", 1)), ("a", "a"))
        self.assertEqual(run(("a", "b"), ("swap", 1)), ("b", "a"))
        high = letters(40)
        self.assertEqual(run(high, ("dup", 40), reach=40), high + high[:1])
        self.assertEqual(self.fault(run, high, ("swap", 40), reach=40), (0, ("swap", 40)))
        self.assertEqual(run(high + ("x",), ("swap", 40), reach=40), ("x",) + high[1:] + high[:1])

    def test_reach(self):
        high = letters(40)
        for reach in (2, 16, 39):
            for name in ("dup", "swap"):
                self.assertEqual(run(high, (name, reach), reach=reach), after(high, (name, reach)))
                wrong = (name, reach + 1)
                self.assertEqual(self.fault(run, high, POP, wrong, reach=reach), (1, wrong))
        self.assertEqual(self.fault(run, high, ("dup", 17)), (0, ("dup", 17)))
        self.assertEqual(run(high, ("dup", 16)), after(high, ("dup", 16)))
        self.assertEqual(self.fault(run, high, ("dup", 41), reach=40), (0, ("dup", 41)))

    def test_the_index_counts_items_of_all_parts(self):
        parts = ([POP, ("dup", 1)], (), ("swap", 1), (POP, POP))
        self.assertEqual(self.fault(run, ("a", "b", "c"), *parts, [], ("dup", 3)), (5, ("dup", 3)))

    def test_strange_items(self):
        for thing in STRANGE:
            before = copy.deepcopy(thing)
            for function in (run, lowest_height, untouched):
                self.assertEqual(self.fault(function, ("a", "b"), POP, [thing]), (1, thing))
            self.assertEqual(thing, before)

    def test_strange_parts(self):
        self.assertEqual(self.fault(run, ("a",), "pop"), (0, "pop"))
        self.assertEqual(self.fault(run, ("a",), None), (0, None))
        self.assertEqual(self.fault(run, ("a",), ["pop"]), (0, "pop"))
        self.assertEqual(self.fault(run, ("a",), (POP, None)), (0, (POP, None)))
        self.assertEqual(self.fault(run, ("a",), ((),)), (0, ()))
        self.assertEqual(self.fault(run, ("a",), {"pop": 1}), (0, {"pop": 1}))
        self.assertEqual(self.fault(run, ("a", "a"), ("dup", True)), (0, ("dup", True)))
        self.assertEqual(run(("a",), (), [], ()), ("a",))

    def test_heights_above_40(self):
        high = run(("a", "b"), [("dup", 2)] * 600)
        self.assertEqual(high, ("a", "b") * 301)
        self.assertEqual(len(run(high, [("dup", 1)] * 600)), 1202)
        self.assertEqual(run(high, [POP] * 600), ("a", "b"))
        self.assertIsInstance(high, tuple)

    def test_against_the_definition(self):
        chance = random.Random(5)
        for _ in range(200):
            stack = tuple(chance.choice("abcd") for _ in range(chance.randrange(7)))
            cells, stacks, wrong = stack, [stack], None
            deeds = random_shuffle(chance, 12, 5)
            for index, deed in enumerate(deeds):
                cells = after(cells, deed) if deed[1:] <= (4,) else None
                if cells is None:
                    wrong = (index, deed)
                    break
                stacks.append(cells)
            if wrong is not None:
                for function in (run, lowest_height, untouched):
                    self.assertEqual(self.fault(function, stack, deeds, reach=4), wrong)
            else:
                self.assertEqual(run(stack, deeds, reach=4), stacks[-1])
                self.assertEqual(lowest_height(stack, deeds, reach=4), min(map(len, stacks)))
                least = min([len(stack), *touched_cells(len(stack), deeds)])
                self.assertEqual(untouched(stack, deeds, reach=4), least)
            self.assertEqual(self.read(stack, deeds), (stacks, wrong))

    def read(self, stack, deeds):
        """What `trace` yields before it ends or faults, and the fault."""
        found = []
        try:
            for cells in trace(stack, deeds, reach=4):
                found.append(cells)
        except Fault as fault:
            return found, (fault.index, fault.instruction)
        return found, None

    def test_by_name(self):
        for function in (run, lowest_height, untouched):
            function(stack=("a",), reach=2)
        self.assertEqual(list(trace(stack=("a",), reach=2)), [("a",)])

    def test_parts_stay(self):
        parts = [[POP, ("dup", 1)], [None]]
        before = copy.deepcopy(parts)
        self.fault(run, ("a", "b"), *parts)
        self.assertEqual(parts, before)


class TraceTest(unittest.TestCase):
    def test_yields_each_stack(self):
        steps = list(trace(("a", "b"), POP, ("dup", 1), reach=2))
        self.assertEqual(steps, [("a", "b"), ("a",), ("a", "a")])
        self.assertEqual(list(trace(())), [()])
        self.assertEqual(list(trace(("a",), (), [])), [("a",)])

    def test_is_a_generator(self):
        steps = trace(("a",), None)
        self.assertIs(iter(steps), steps)
        self.assertEqual(next(steps), ("a",))
        with self.assertRaises(Fault):
            next(steps)
        self.assertEqual(list(steps), [])

    def test_fault_comes_in_its_turn(self):
        steps = trace(("a", "b"), [POP, POP, POP, None])
        self.assertEqual([next(steps), next(steps), next(steps)], [("a", "b"), ("a",), ()])
        with self.assertRaises(Fault) as caught:
            next(steps)
        self.assertEqual((caught.exception.index, caught.exception.instruction), (2, POP))


class LowestHeightTest(unittest.TestCase):
    def test_heights(self):
        stack = ("a", "b", "c")
        self.assertEqual(lowest_height(stack), 3)
        self.assertEqual(lowest_height(stack, ("dup", 1)), 3)
        self.assertEqual(lowest_height(stack, POP, POP, ("dup", 1), ("dup", 1)), 1)
        self.assertEqual(lowest_height(stack, [POP] * 3), 0)
        self.assertEqual(lowest_height(stack, ("dup", 1), POP), 3)
        self.assertEqual(lowest_height(()), 0)


class UntouchedTest(unittest.TestCase):
    def test_numbers(self):
        stack = ("a", "b", "c")
        self.assertEqual(untouched(stack), 3)
        self.assertEqual(untouched(stack, POP), 2)
        self.assertEqual(untouched(stack, ("dup", 1)), 2)
        self.assertEqual(untouched(stack, ("dup", 3)), 0)
        self.assertEqual(untouched(stack, ("swap", 1)), 1)
        self.assertEqual(untouched(stack, ("swap", 2)), 0)
        self.assertEqual(untouched(stack, ("dup", 1), POP), 2)
        self.assertEqual(untouched(stack, ("dup", 1), ("dup", 1), ("dup", 1), POP), 2)
        self.assertEqual(untouched(stack, POP, ("dup", 1), POP), 1)
        self.assertEqual(untouched(()), 0)
        self.assertEqual(untouched(("a",), ("dup", 1), ("swap", 1)), 0)

    def test_high_stack(self):
        stack = ("a",) * 700
        self.assertEqual(untouched(stack, ("swap", 40), reach=40), 659)
        self.assertEqual(untouched(stack, ("dup", 40), reach=40), 660)


if __name__ == "__main__":
    unittest.main()
