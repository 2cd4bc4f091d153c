"""[30], [31]: the checker of layer certificates."""

import copy
import itertools
import random
import unittest

from samples import STRANGE, after, all_stacks, instructions, letters, raised_by, reached_by_fact, search_layers

from deepedge.errors import InvalidCertificate
from deepedge.layercheck import check_layers
from deepedge.layers import shortest
from deepedge.machine import run


def is_stack(thing):
    """Whether the thing is a tuple of at most 40 values."""
    if type(thing) is not tuple or len(thing) > 40:
        return False
    return all(type(v) is str and 1 <= len(v) <= 8 and set(v) <= set("abcdefghijklmnopqrstuvwxyz") for v in thing)


def made_of(layer, reach):
    """All stacks that one instruction makes of one of the layer."""
    return {after(cells, deed) for cells in layer for deed in instructions(reach)} - {None}


def problem_by_definition(stack, target, value, reach):
    """The first reason of [31] that applies, or None."""
    if type(value) is not tuple:
        return "shape"
    for layer in value:
        if type(layer) is not tuple or not layer or not all(map(is_stack, layer)):
            return "shape"
    if value and value[0] != (stack,):
        return "start"
    if any(list(layer) != sorted(set(layer)) for layer in value):
        return "order"
    for at in range(1, len(value)):
        earlier = set(itertools.chain.from_iterable(value[:at]))
        if not set(value[at]) <= made_of(value[at - 1], reach) - earlier:
            return "step"
    for at in range(len(value) - 1):
        if not made_of(value[at], reach) <= set(itertools.chain.from_iterable(value[:at + 2])):
            return "open"
    return "target" if any(target in layer for layer in value) else None


def changed(layers, chance):
    """Certificates that differ from these layers in one place."""
    for at, layer in enumerate(layers):
        spot = chance.randrange(len(layer))
        other = chance.randrange(len(layers))
        some = layer[spot]
        put = chance.choice(layers[other])
        fresh = tuple(chance.choice("abc") for _ in range(chance.randrange(4)))
        for changed_layer in [
            layer[:spot] + layer[spot + 1:], layer[:spot] + (some,) + layer[spot:], layer[::-1], layer + layer[:1],
            layer[:spot] + layer[spot:spot + 2][::-1] + layer[spot + 2:], tuple(sorted(layer + (fresh,))),
            tuple(sorted(set(layer) | {fresh})), tuple(sorted(set(layer) | {put})), (), list(layer), layer + ([*some],),
            layer[:spot] + (fresh,) + layer[spot + 1:], layer + (some + (1,),), set(layer), None,
        ]:
            yield layers[:at] + (changed_layer,) + layers[at + 1:]
        if other != at:
            moved = {at: tuple(sorted(set(layer) - {some})), other: tuple(sorted({*layers[other], some}))}
            yield tuple(moved.get(index, old) for index, old in enumerate(layers))
        yield layers[:at] + layers[at + 1:]
        yield layers[:at] + (layer,) + layers[at:]
        yield layers[:at] + layers[at:at + 2][::-1] + layers[at + 2:]
        yield layers[:at] + layers[at]
        yield list(layers)


class CheckLayersTest(unittest.TestCase):
    def problem(self, stack, target, value, reach=2):
        """The reason that the checker tells, or the length that it returns."""
        error = raised_by(check_layers, stack, target, value, reach=reach)
        if error is None:
            found = check_layers(stack, target, value, reach=reach)
            self.assertIs(type(found), int)
            return found
        self.assertIs(type(error), InvalidCertificate, (value, error))
        return error.reason

    def test_small(self):
        self.assertEqual(check_layers(("a",), ("a", "a"), ((("a",),),)), 1)
        self.assertEqual(self.problem(("a",), ("a",), ((("a",),),)), "target")
        self.assertEqual(check_layers(("a",), ("a",), ()), 0)
        self.assertEqual(check_layers(value=(), target=("b",), stack=("a",), reach=2), 0)
        two = ((("a",),), ((), ("a", "a")))
        self.assertEqual(check_layers(("a",), ("a", "a", "a"), two), 2)
        # No shuffle leads to the target at all: the certificate holds nevertheless.
        self.assertEqual(check_layers(("a",), ("b",), two), 2)

    def test_each_reason(self):
        stack, target = ("a", "b"), ("a", "a", "a")
        right = search_layers(stack, 2, 2)
        self.assertEqual(self.problem(stack, target, right), 3)
        one, two, three = right
        for value, reason in [
            ([one, two], "shape"), ((one, list(two)), "shape"), ((one, ()), "shape"), (((),), "shape"), ((stack,), "shape"),
            ((one, two, (("a", "B"),)), "shape"), ((two,), "start"), (((("b", "a"),), two), "start"),
            ((one * 2, two), "start"), (((("a",),), two), "start"), ((one, two[::-1]), "order"),
            ((one, two[:1] + two), "order"), ((one, two, three + three[:1]), "order"), ((one, three), "step"),
            ((one, two[:1] + (("a", "b"),) + two[1:]), "step"), ((one, two, tuple(sorted(three + two[:1]))), "step"),
            ((one, two[1:]), "open"), ((one, two, three[1:]), "open"), ((one, two[:-1], three), "step"),
            ((one, two, three, three[:1]), "step"),
        ]:
            self.assertEqual(problem_by_definition(stack, target, value, 2), reason, value)
            self.assertEqual(self.problem(stack, target, value), reason, value)
        for found in one + two + three:
            self.assertEqual(self.problem(stack, found, right), "target")

    def test_an_earlier_reason_in_a_later_layer_comes_first(self):
        one, two, three = search_layers(("a", "b"), 2, 2)
        stack, target = ("a", "b"), ("a",)
        self.assertEqual(self.problem(stack, target, (one, two, three)), "target")
        self.assertEqual(self.problem(stack, target, (one, two, three[1:])), "open")
        self.assertEqual(self.problem(stack, target, (one, two[:-1], three)), "step")
        self.assertEqual(self.problem(stack, target, (one, two[:-1], three[::-1])), "order")
        self.assertEqual(self.problem(("a",), target, (one, two[:-1], three[::-1])), "start")
        self.assertEqual(self.problem(("a",), target, (one, two[:-1], three[::-1] + ((1,),))), "shape")

    def test_a_stack_that_comes_one_layer_too_late(self):
        one, two, three, _ = search_layers(("a", "b"), 2, 3)
        late = 0
        for cells in three:
            short = tuple(sorted(set(three) - {cells}))
            last = tuple(sorted(made_of(short, 2) - set(one + two + short)))
            # Where the stack is made of its own layer, too, each step is right, and all that is made stands somewhere.
            if cells in last:
                late += 1
                self.assertEqual(self.problem(("a", "b"), ("z",), (one, two, short, last)), "open")
        self.assertGreater(late, 0)
        self.assertEqual(self.problem(("a", "a"), ("c",), ((("a", "a"),), (("a",),), ((),))), "open")
        self.assertEqual(self.problem(("a",), ("c",), ((("a",),), ((),), ((), ("a", "a")))), "step")

    def test_certificates_of_small_stacks_and_one_layer_more_or_less(self):
        for stack in all_stacks("abc", 3):
            for reach in (2, 3):
                layers = search_layers(stack, reach, 3)
                if stack == ():
                    # No instruction can be executed: there is no second layer.
                    self.assertEqual([self.problem(stack, ("z",), layers[:length], reach) for length in (0, 1)], [0, 1])
                    self.assertEqual(self.problem(stack, ("z",), layers[:2], reach), "shape")
                    continue
                for length in range(5):
                    self.assertEqual(self.problem(stack, ("z",), layers[:length], reach), length)
                    expected = length if length < 3 else "target"
                    self.assertEqual(self.problem(stack, layers[2][0], layers[:length], reach), expected)

    def test_the_reach_matters(self):
        stack = ("a", "b", "c", "d")
        wide, narrow = search_layers(stack, 3, 2), search_layers(stack, 2, 2)
        self.assertEqual(self.problem(stack, ("z",), wide, 3), 3)
        self.assertEqual(self.problem(stack, ("z",), wide, 2), "step")
        self.assertEqual(self.problem(stack, ("z",), narrow, 3), "open")
        for reach, problem in [(15, "open"), (16, None), (17, "step")]:
            error = raised_by(check_layers, letters(18), ("z",), search_layers(letters(18), reach, 1))
            self.assertEqual(error and error.reason, problem)

    def test_changed_certificates(self):
        chance = random.Random(72)
        found = []
        for _ in range(150):
            stack = tuple(chance.choice("abc") for _ in range(chance.randrange(4)))
            target = tuple(chance.choice("abc") for _ in range(chance.randrange(4)))
            reach = chance.choice([2, 3])
            if not reached_by_fact(stack, target, reach):
                continue
            layers = shortest(stack, target, reach=reach)[1][:4]
            values = list(changed(layers, chance))
            cases = [(value, target) for value in values] + [(layers[:3], cells) for layer in layers for cells in layer]
            for value, end in cases:
                problem = self.problem(stack, end, value, reach)
                expected = problem_by_definition(stack, end, value, reach)
                self.assertEqual(problem, len(value) if expected is None else expected, (stack, end, value))
                found.append(expected)
        for reason in ("shape", "start", "order", "step", "open", "target", None):
            self.assertGreater(found.count(reason), 10, reason)

    def test_strange_values(self):
        for thing in STRANGE + [0, 1, "", "a", ("a",), (("a",),), ((("a",),), None), (None,), ([("a",)],), {(): 1}]:
            before = copy.deepcopy(thing)
            for value in (thing, (thing,), ((("a",),), thing), ((("a",),), (thing,)), ((("a",),), ((thing,),))):
                expected = problem_by_definition(("a",), ("b",), value, 2)
                problem = self.problem(("a",), ("b",), value)
                self.assertEqual(problem, len(value) if expected is None else expected, value)
            self.assertEqual(thing, before)

    def test_high_stacks(self):
        stack = letters(40)
        self.assertEqual(self.problem(stack, stack[1:], ((stack,),), 40), 1)
        layers = ((stack,), (stack[:-1],))
        self.assertEqual(self.problem(stack, stack[1:], layers, 2), "open")
        # A stack of 41 values stands in no certificate, even if a function returned it.
        higher = run(stack, ("dup", 1), reach=2)
        self.assertEqual(self.problem(higher, stack[1:], ((higher,),), 40), "shape")
        self.assertEqual(self.problem(higher, higher, (), 40), 0)
        self.assertEqual(self.problem(stack, stack[1:], ((stack,), tuple(sorted((stack[:-1], higher)))), 40), "shape")


if __name__ == "__main__":
    unittest.main()
