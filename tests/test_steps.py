"""[47], [48]: steps, calls, code and live values."""

import copy
import itertools
import random
import unittest

from samples import STRANGE, instructions, letters

from deepedge.steps import is_call, is_code, is_step, live_values


def live_by_definition(steps, target):
    """The live values after each step by the words of [47]."""
    told = []
    for index in range(len(steps)):
        values = set(target)
        for _, arguments, _ in steps[index + 1:]:
            values |= set(arguments)
        told.append(tuple(sorted(values - {result for _, _, result in steps[index:]})))
    return told


class IsStepTest(unittest.TestCase):
    def test_steps(self):
        for thing in [
            ("add", ("a", "b"), "c"), ("a", (), "a"), ("abcdefgh", ("a", "a", "a"), "a"), ("pop", ("dup",), "swap"),
            ("call", ("code", "stack", "reach"), "code"), ("reaches", (), "stack"),
        ]:
            self.assertIs(is_step(thing), True, thing)

    def test_no_steps(self):
        for thing in [
            ("add", ("a", "b")), ("add", ("a", "b"), "c", "d"), ["add", ("a",), "c"], ("add", ["a"], "c"),
            ("add", "a", "c"), ("add", ("a", "b", "c", "d"), "e"), ("add", ("a", "B"), "c"), ("add", (1,), "c"),
            ("add", ("a",), "C"), ("add", ("a",), ""), ("add", ("a",), ("c",)), ("add", ("a",), None),
            ("code", ("a",), "c"), ("stack", ("a",), "c"), ("reach", (), "c"), ("", ("a",), "c"), ("Add", ("a",), "c"),
            ("abcdefghi", ("a",), "c"), ("add ", ("a",), "c"), (1, ("a",), "c"), (True, (), "c"), (("add",), (), "c"),
            ("add", ((),), "c"), ("add", (("a",),), "c"), ("add", None, "c"), ("add", {}, "c"), (), ("add",),
            ("call", "add", 2),
        ]:
            self.assertIs(is_step(thing), False, thing)

    def test_any_values(self):
        for thing in STRANGE:
            before = copy.deepcopy(thing)
            for made in (thing, (thing, ("a",), "c"), ("add", thing, "c"), ("add", (thing,), "c"), ("add", ("a",), thing)):
                # Of these, ("dup",) is a tuple of values.
                self.assertIs(is_step(made), made == ("add", ("dup",), "c"), made)
            self.assertEqual(thing, before)


class IsCallTest(unittest.TestCase):
    def test_calls(self):
        for count in range(4):
            for name in ("a", "abcdefgh", "pop", "dup", "call", "reaches"):
                self.assertIs(is_call(("call", name, count)), True)

    def test_no_calls(self):
        for thing in [
            ("call", "add"), ("call", "add", 2, 2), ["call", "add", 2], ("call", "add", 4), ("call", "add", -1),
            ("call", "add", True), ("call", "add", False), ("call", "add", "2"), ("call", "add", None),
            ("call", "code", 1), ("call", "stack", 1), ("call", "reach", 1), ("call", "", 1), ("call", "Add", 1),
            ("call", "abcdefghi", 1), ("call", 1, 1), ("call", ("add",), 1), ("Call", "add", 1), ("", "add", 1),
            (("call",), "add", 1), ("pop",), ("dup", 1), ("swap", 1), (), ("add", ("a", "b"), "c"), ("push", "add", 1),
        ]:
            self.assertIs(is_call(thing), False, thing)

    def test_any_values(self):
        for thing in STRANGE:
            for made in (thing, (thing, "add", 1), ("call", thing, 1), ("call", "add", thing)):
                self.assertIs(is_call(made), False, made)


class IsCodeTest(unittest.TestCase):
    def test_code(self):
        call = ("call", "max", 2)
        for thing in [(), (call,), (("pop",),), (("dup", 40), call, call, ("swap", 40)), (call, ("pop",)) * 1000]:
            self.assertIs(is_code(thing), True)

    def test_reaches(self):
        for reach in (2, 3, 16, 39, 40):
            for deed in instructions(40):
                expected = deed == ("pop",) or deed[1] <= reach
                self.assertIs(is_code((("call", "f", 0), deed), reach=reach), expected)
        self.assertIs(is_code((("dup", 40),)), True)
        self.assertIs(is_code(reach=2, thing=(("dup", 3),)), False)

    def test_no_code(self):
        call = ("call", "max", 2)
        for thing in [
            [call], call, ("pop",), (call, ()), (call, None), (call, [call]), ((call,),), (call, ("dup", 0)),
            (call, ("dup", 41)), (call, ("call", "max", 4)), (call, ("call", "code", 2)), (("push", "a"),),
            (("pop",), ("pop", 1)), (("pop",), "pop"), "pop", (("add", ("a", "b"), "c"),),
        ]:
            self.assertIs(is_code(thing), False, thing)

    def test_any_values(self):
        for thing in STRANGE:
            self.assertIs(is_code(thing), False, thing)
            self.assertIs(is_code((("pop",), thing)), False, thing)


class LiveValuesTest(unittest.TestCase):
    def test_example(self):
        steps = (("add", ("a", "b"), "c"), ("mul", ("c", "a"), "d"))
        self.assertEqual(live_values(steps, ("d",)), [("a",), ()])
        self.assertEqual(live_values(steps), [("a",), ()])
        self.assertEqual(live_values(target=("d", "b", "a", "b", "c"), steps=steps), [("a", "b"), ("a", "b", "c")])

    def test_edges(self):
        self.assertEqual(live_values(()), [])
        self.assertEqual(live_values((), ("a",)), [])
        self.assertEqual(live_values((("f", (), "a"),)), [()])
        self.assertEqual(live_values((("f", (), "a"),), ("a", "a")), [()])
        # Nothing gives z, and it is live all the same.
        steps = (("f", ("b", "b"), "a"), ("g", ("y",), "c"))
        self.assertEqual(live_values(steps, ("z", "c", "z")), [("y", "z"), ("z",)])

    def test_by_definition(self):
        chance = random.Random(201)
        names = letters(40)
        for _ in range(300):
            results = chance.sample(names, chance.randrange(14))
            steps = []
            for index, result in enumerate(results):
                known = [name for name in names[:20] if name not in results[index:]] + results[:index]
                arguments = tuple(chance.choice(known) for _ in range(chance.randrange(4)))
                steps.append(("f", arguments, result))
            target = tuple(chance.choice(names) for _ in range(chance.randrange(12)))
            before = copy.deepcopy(steps)
            self.assertEqual(live_values(tuple(steps), target), live_by_definition(steps, target))
            self.assertEqual(steps, before)

    def test_many_steps(self):
        names = ["".join(three) for three in itertools.product("abcdefghi", repeat=3)]
        steps = tuple(("f", tuple(names[max(0, at - 2):at]), name) for at, name in enumerate(names))
        told = live_values(steps, tuple(names[:30]))
        self.assertEqual(told, live_by_definition(steps, names[:30]))

    def test_the_list_belongs_to_the_caller(self):
        steps = (("f", ("b",), "a"), ("g", ("y",), "c"))
        told = live_values(steps, ("a",))
        told.clear()
        self.assertEqual(live_values(steps, ("a",)), [("y",), ("a",)])


if __name__ == "__main__":
    unittest.main()
