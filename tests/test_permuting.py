"""[66] to [70]: cycles_of, least_swaps, most_swaps and check_swaps."""

import copy
import itertools
import random
import unittest

from samples import STRANGE, after, all_stacks, letters

from deepedge.errors import InvalidCertificate
from deepedge.machine import run
from deepedge.permuting import check_swaps, cycles_of, least_swaps, most_swaps


def is_pair(stack, target, reach):
    """Whether the two are a permutation pair, by the words of [66]."""
    upper = min(len(stack), reach + 1)
    low = len(stack) - upper
    return (
        len(stack) == len(target) and stack[:low] == target[:low] and len(set(stack[low:])) == upper
        and set(stack[low:]) == set(target[low:])
    )


def is_cycle(cycle, stack, target, low):
    """Whether the tuple is a cycle of the permutation pair, by the words of [67]."""
    if len(cycle) < 2 or len(set(cycle)) < len(cycle) or not all(low <= cell < len(stack) for cell in cycle):
        return False
    return cycle[0] == min(cycle) and all(target[cell] == stack[after] for cell, after in zip(cycle, cycle[1:] + cycle[:1]))


def cycles_by_definition(stack, target, reach):
    """All cycles of a permutation pair of few cells."""
    low = max(0, len(stack) - reach - 1)
    cells = range(low, len(stack))
    found = []
    for length in range(2, len(cells) + 1):
        found += [cycle for cycle in itertools.permutations(cells, length) if is_cycle(cycle, stack, target, low)]
    return tuple(sorted(found))


def numbers_of_swaps(stack, reach):
    """The least number of swaps to each stack that swaps make of this one, found by a search."""
    numbers, fresh, number = {stack: 0}, [stack], 0
    while fresh:
        number += 1
        made = {after(cells, ("swap", at)) for cells in fresh for at in range(1, reach + 1)} - {None}
        fresh = [cells for cells in made if cells not in numbers]
        numbers.update({cells: number for cells in fresh})
    return numbers


def random_pair(chance, reach, height):
    """A stack and a permutation of its upper cells that leaves some of them alone."""
    upper = min(height, reach + 1)
    names = list(letters(upper))
    chance.shuffle(names)
    bottom = tuple(chance.choice(letters(41) + ("zz",)) for _ in range(height - upper))
    moved = chance.sample(range(upper), chance.randrange(upper + 1))
    turned = chance.sample(moved, len(moved))
    target = list(names)
    for place, other in zip(moved, turned):
        target[place] = names[other]
    return bottom + tuple(names), bottom + tuple(target)


class CyclesTest(unittest.TestCase):
    def test_example(self):
        start, goal = ("a", "b", "c", "d"), ("b", "a", "d", "c")
        self.assertEqual(cycles_of(start, goal), ((0, 1), (2, 3)))
        self.assertIsNone(cycles_of(start, goal, reach=2))
        self.assertEqual(cycles_of(start, goal, reach=3), ((0, 1), (2, 3)))

    def test_direction(self):
        # The target has in each cell of the cycle what the stack has in the next one.
        self.assertEqual(cycles_of(("a", "b", "c"), ("b", "c", "a")), ((0, 1, 2),))
        self.assertEqual(cycles_of(("a", "b", "c"), ("c", "a", "b")), ((0, 2, 1),))
        self.assertEqual(cycles_of(("x", "a", "b", "c", "d"), ("x", "c", "d", "b", "a"), reach=3), ((1, 3, 2, 4),))

    def test_no_cycles(self):
        for height in (0, 1, 2, 17, 40, 41):
            for reach in (2, 16, 40):
                self.assertEqual(cycles_of(letters(height), letters(height), reach=reach), ())
        # Below the upper cells a value may occur again.
        self.assertEqual(cycles_of(("a", "a", "c", "b", "a"), ("a", "a", "b", "c", "a"), reach=2), ((2, 3),))
        self.assertIsNone(cycles_of(("a", "a", "c", "b", "a"), ("a", "a", "b", "c", "a"), reach=3))

    def test_no_pairs(self):
        for stack, target in [
            (("a",), ()), ((), ("a",)), (("a", "b"), ("a",)), (("a", "b"), ("a", "c")), (("a", "a"), ("a", "a")),
            (("a", "b"), ("a", "a")), (("a", "b", "a"), ("b", "a", "a")), (("a", "b", "c"), ("a", "b", "d")),
        ]:
            self.assertIsNone(cycles_of(stack, target))
        self.assertIsNone(cycles_of(("x", "a", "b", "c"), ("y", "a", "b", "c"), reach=2))
        self.assertEqual(cycles_of(("x", "a", "b", "c"), ("x", "b", "a", "c"), reach=2), ((1, 2),))
        self.assertIsNone(cycles_of(("x", "a", "b", "c"), ("b", "a", "x", "c"), reach=2))
        self.assertEqual(cycles_of(("x", "a", "b", "c"), ("b", "a", "x", "c"), reach=3), ((0, 2),))

    def test_small_stacks_by_definition(self):
        pairs = 0
        stacks = list(all_stacks("abc", 3)) + [("d",) + cells for cells in all_stacks("abcd", 3) if len(cells) == 3]
        for stack in stacks:
            for target in stacks:
                for reach in (2, 3):
                    expected = cycles_by_definition(stack, target, reach) if is_pair(stack, target, reach) else None
                    self.assertEqual(cycles_of(stack, target, reach=reach), expected, (stack, target))
                    pairs += expected is not None
        self.assertGreater(pairs, 200)

    def test_random_pairs_by_definition(self):
        chance = random.Random(321)
        for _ in range(60):
            reach = chance.choice([2, 3, 4, 5])
            stack, target = random_pair(chance, reach, chance.randrange(9))
            self.assertEqual(cycles_of(stack, target, reach=reach), cycles_by_definition(stack, target, reach))

    def test_high_pairs(self):
        chance = random.Random(322)
        for _ in range(300):
            reach = chance.choice([2, 16, 39, 40])
            stack, target = random_pair(chance, reach, chance.choice([30, 40, 41, 60]))
            cycles = cycles_of(stack, target, reach=reach)
            low = max(0, len(stack) - reach - 1)
            self.assertEqual(list(cycles), sorted(set(cycles)))
            cells = [cell for cycle in cycles for cell in cycle]
            self.assertTrue(all(is_cycle(cycle, stack, target, low) for cycle in cycles))
            self.assertEqual(sorted(cells), [cell for cell in range(len(stack)) if stack[cell] != target[cell]])


class LeastSwapsTest(unittest.TestCase):
    def check(self, stack, target, reach):
        """Check what is told of the pair by the words of [68], and return the number."""
        told = least_swaps(stack, target, reach=reach)
        self.assertIsInstance(told, tuple)
        count, deeds = told
        self.assertIs(type(count), int)
        self.assertIsInstance(deeds, tuple)
        self.assertEqual(len(deeds), count)
        self.assertEqual({deed[0] for deed in deeds} | {"swap"}, {"swap"})
        self.assertEqual(run(stack, deeds, reach=reach), target)
        cycles = cycles_of(stack, target, reach=reach)
        top = any(len(stack) - 1 in cycle for cycle in cycles)
        self.assertEqual(count, sum(len(cycle) + 1 for cycle in cycles) - 2 * top)
        upper = min(len(stack), reach + 1)
        if upper:
            self.assertLessEqual(count, most_swaps(upper))
        self.assertIs(check_swaps(stack, target, (count, cycles), reach=reach), True)
        return count

    def test_example(self):
        self.assertEqual(least_swaps(("a", "b", "c", "d"), ("b", "a", "d", "c"))[0], 4)
        self.assertEqual(self.check(("a", "b", "c", "d"), ("b", "a", "d", "c"), 16), 4)

    def test_no_pairs(self):
        self.assertIsNone(least_swaps(("a", "b"), ("a",)))
        self.assertIsNone(least_swaps(("a", "a"), ("a", "a")))
        self.assertIsNone(least_swaps(("a", "b", "c", "d"), ("b", "a", "d", "c"), reach=2))
        chance = random.Random(323)
        for _ in range(300):
            stack, target = [tuple(chance.choice("abc") for _ in range(3)) for _ in range(2)]
            self.assertEqual(least_swaps(stack, target) is None, not is_pair(stack, target, 16))

    def test_small_stacks_against_a_search(self):
        for height in range(7):
            for reach in (2, 3, 4, 5):
                bottom = ("f", "a")[:max(0, height - reach - 1)]
                stack = ("f",) * (height - reach - 1 - len(bottom)) + bottom + letters(min(height, reach + 1))
                numbers = numbers_of_swaps(stack, reach)
                for target, number in numbers.items():
                    self.assertEqual(self.check(stack, target, reach), number, (stack, target, reach))
                upper = min(height, reach + 1)
                if upper:
                    self.assertEqual(max(numbers.values()), most_swaps(upper))

    def test_most_swaps(self):
        self.assertEqual([most_swaps(cells) for cells in range(1, 8)], [0, 1, 3, 4, 6, 7, 9])
        self.assertEqual([most_swaps(cells=cells) for cells in (40, 41)], [58, 60])
        for cells in range(1, 42):
            # As many are needed where the cells are exchanged in pairs from the bottom on.
            names = letters(cells)
            pairs = [names[at:at + 2][::-1] for at in range(0, cells, 2)]
            target = tuple(name for pair in pairs for name in pair)
            self.assertEqual(self.check(names, target, 40), most_swaps(cells), cells)

    def test_nothing_to_do(self):
        for height in (0, 1, 2, 41):
            self.assertEqual(least_swaps(letters(height), letters(height)), (0, ()))

    def test_random_pairs(self):
        chance = random.Random(324)
        for _ in range(500):
            reach = chance.choice([2, 3, 16, 39, 40])
            stack, target = random_pair(chance, reach, chance.choice([3, 10, 40, 41, 60]))
            self.check(stack, target, reach)
            self.assertEqual(least_swaps(stack, target, reach=reach), least_swaps(stack, target, reach=reach))

    def test_with_the_top_and_without_it(self):
        self.assertEqual(self.check(("a", "b", "c"), ("a", "c", "b"), 2), 1)
        self.assertEqual(self.check(("a", "b", "c"), ("b", "a", "c"), 2), 3)
        self.assertEqual(self.check(("a", "b", "c"), ("b", "c", "a"), 2), 2)
        self.assertEqual(self.check(("a", "b", "c", "d"), ("b", "c", "a", "d"), 3), 4)


class CheckSwapsTest(unittest.TestCase):
    PAIR = (("a", "b", "c", "d", "e"), ("b", "a", "d", "e", "c"))
    CYCLES = ((0, 1), (2, 3, 4))

    def problem(self, stack, target, value, reach=16):
        """The problem that the checker names, or None if it returns True."""
        try:
            self.assertIs(check_swaps(stack, target, value, reach=reach), True)
        except InvalidCertificate as error:
            return error.reason
        return None

    def by_definition(self, stack, target, value, reach):
        """The first problem of the value, by the words of [68] and [70], or None."""
        if not is_pair(stack, target, reach):
            return "pair"
        if type(value) is not tuple or len(value) != 2 or type(value[0]) is not int or type(value[1]) is not tuple:
            return "shape"
        count, cycles = value
        if not all(type(cycle) is tuple and all(type(cell) is int for cell in cycle) for cycle in cycles):
            return "shape"
        low = max(0, len(stack) - reach - 1)
        if not all(is_cycle(cycle, stack, target, low) for cycle in cycles) or list(cycles) != sorted(set(cycles)):
            return "cycles"
        top = any(len(stack) - 1 in cycle for cycle in cycles)
        most = sum(len(cycle) + 1 for cycle in cycles) - 2 * top
        return None if 0 <= count <= most else "count"

    def test_examples(self):
        start, goal = ("a", "b", "c", "d"), ("b", "a", "d", "c")
        self.assertIs(check_swaps(start, goal, (4, ((0, 1), (2, 3)))), True)
        self.assertIs(check_swaps(start, goal, (1, ((2, 3),))), True)
        self.assertEqual(self.problem(start, goal, (2, ((2, 3),))), "count")
        self.assertIs(check_swaps(reach=3, value=(4, ((0, 1), (2, 3))), target=goal, stack=start), True)

    def test_counts(self):
        for cycles, most in [((), 0), (((0, 1),), 3), (((2, 3, 4),), 2), (self.CYCLES, 5)]:
            for count in range(-2, 8):
                expected = None if 0 <= count <= most else "count"
                self.assertEqual(self.problem(*self.PAIR, (count, cycles)), expected, (count, cycles))
            self.assertEqual(self.problem(*self.PAIR, (10 ** 99, cycles)), "count")

    def test_cycles(self):
        for cycles in [
            ((1, 0),), ((3, 4, 2),), ((2, 4, 3),), ((2, 3),), ((0, 1, 2),), ((0,),), ((),), ((0, 1), (0, 1)), ((0, 0),),
            ((2, 3, 4), (0, 1)), ((0, 1), (2, 3, 4), (5,)), ((0, 1, 0, 1),), ((-5, 1),), ((0, 1), (3, 4, 2)), ((5, 6),),
            ((2, 3, 4, 2),), ((-5, -4),),
        ]:
            self.assertEqual(self.problem(*self.PAIR, (0, cycles)), "cycles", cycles)

    def test_shapes(self):
        for value in [
            (), (0,), (0, (), ()), [0, ()], (0, []), (0, [(0, 1)]), (0, ([0, 1],)), (0, ((0, True),)), (0, ((False, 1),)),
            (False, ()), (True, ((0, 1),)), (None, ()), ("0", ()), (0, ((0, "1"),)), (0, (0, 1)), (0, ((0, None),)),
            (0, (((0, 1),),)), (0, None), (0, ((0, 1), None)), (((0, 1),), 0), (-1, [(0, 1)]), (0, ((1, 0), [2])),
        ]:
            self.assertEqual(self.problem(*self.PAIR, value), "shape", value)

    def test_strange_values(self):
        for thing in STRANGE:
            before = copy.deepcopy(thing)
            self.assertEqual(self.problem(*self.PAIR, thing), "shape")
            self.assertEqual(self.problem(*self.PAIR, (thing, self.CYCLES)), "count" if type(thing) is int else "shape")
            self.assertEqual(self.problem(*self.PAIR, (0, thing)), "shape")
            self.assertEqual(self.problem(*self.PAIR, (0, (thing,))), "shape")
            expected = "cycles" if type(thing) is int else "shape"
            self.assertEqual(self.problem(*self.PAIR, (0, ((0, thing),))), expected)
            self.assertEqual(self.problem(("a", "a"), ("a", "a"), thing), "pair")
            self.assertEqual(thing, before)

    def test_no_pairs(self):
        for stack, target in [(("a",), ()), (("a", "a"), ("a", "a")), (("a", "b"), ("a", "c"))]:
            for value in [(0, ()), (0, None), None, (1, ((0, 1),))]:
                self.assertEqual(self.problem(stack, target, value), "pair")
        self.assertEqual(self.problem(*self.PAIR, (5, self.CYCLES), reach=3), "pair")
        self.assertIsNone(self.problem(*self.PAIR, (5, self.CYCLES), reach=4))

    def test_order_of_problems(self):
        self.assertEqual(self.problem(*self.PAIR, (9, ((1, 0), ["x"]))), "shape")
        self.assertEqual(self.problem(*self.PAIR, (9, ((1, 0),))), "cycles")
        self.assertEqual(self.problem(*self.PAIR, (-1, ((1, 0),))), "cycles")
        self.assertEqual(self.problem(*self.PAIR, (-1, ((0, 1),))), "count")

    def test_nothing_to_do(self):
        self.assertIsNone(self.problem((), (), (0, ())))
        self.assertEqual(self.problem((), (), (1, ())), "count")
        self.assertEqual(self.problem((), (), (0, ((),))), "cycles")
        self.assertIsNone(self.problem(("a",), ("a",), (0, ())))

    def test_cells_of_a_high_stack(self):
        stack, target = ("x", "y", "a", "b", "c"), ("x", "y", "b", "a", "c")
        self.assertIsNone(self.problem(stack, target, (3, ((2, 3),)), reach=2))
        self.assertEqual(self.problem(stack, target, (3, ((0, 1),)), reach=2), "cycles")

    def test_small_pairs_against_the_definition(self):
        found = set()
        tuples = [tuple(cells) for length in range(4) for cells in itertools.product((0, 1, 2), repeat=length)]
        values = [(count, (cycle,)) for count in range(-1, 5) for cycle in tuples]
        values += [(count, pair) for count in (0, 1) for pair in itertools.product(tuples[:13], repeat=2)]
        values += [(0, ((0, True),)), (True, ()), (0, ()), (1, ())]
        for target in itertools.product("abc", repeat=3):
            for reach in (2, 3):
                for value in values:
                    problem = self.problem(("a", "b", "c"), target, value, reach)
                    self.assertEqual(problem, self.by_definition(("a", "b", "c"), target, value, reach), (target, value))
                    found.add(problem)
        self.assertEqual(found, {None, "pair", "shape", "cycles", "count"})

    def test_random_certificates(self):
        chance = random.Random(325)
        for _ in range(300):
            reach = chance.choice([3, 16, 40])
            stack, target = random_pair(chance, reach, chance.choice([4, 9, 40]))
            cycles = cycles_of(stack, target, reach=reach)
            some = tuple(cycle for cycle in cycles if chance.random() < 0.6)
            for count in range(-1, 10):
                self.assertEqual(
                    self.problem(stack, target, (count, some), reach), self.by_definition(stack, target, (count, some), reach)
                )
            # A sum over some of the cycles is never greater.
            top = any(len(stack) - 1 in cycle for cycle in some)
            self.assertLessEqual(sum(len(c) + 1 for c in some) - 2 * top, least_swaps(stack, target, reach=reach)[0])


if __name__ == "__main__":
    unittest.main()
