"""[47], [50]: execute."""

import copy
import random
import unittest

from samples import STRANGE, after, instructions, raised_by

from deepedge.errors import Fault, InvalidReach, InvalidShuffle, UnknownOperation
from deepedge.running import execute

POP = ("pop",)
STEPS = [("call", "f", count) for count in range(4)]


class Record:
    """An operation that remembers its arguments and returns the next one of some numbers."""

    def __init__(self, *results):
        self.results = list(results)
        self.calls = []

    def __call__(self, *numbers):
        self.calls.append(numbers)
        return self.results.pop(0)


class ExecuteTestCase(unittest.TestCase):
    def raises(self, *arguments, **settings):
        """The class and the attributes of the error that the call raises."""
        error = raised_by(execute, *arguments, **settings)
        self.assertIsNotNone(error, arguments)
        return (type(error), *vars(error).values())


class ResultTest(ExecuteTestCase):
    def test_instructions_alone(self):
        self.assertEqual(execute((), (1, 2)), (1, 2))
        self.assertEqual(execute((), ()), ())
        self.assertEqual(execute((POP, ("dup", 2), ("swap", 2)), (5, 6, 7), reach=2), (5, 6, 5))
        chance = random.Random(221)
        for _ in range(200):
            cells = tuple(range(chance.randrange(6)))
            code, expected = [], cells
            for _ in range(chance.randrange(12)):
                deed = chance.choice(instructions(3))
                if after(expected, deed) is not None:
                    code.append(deed)
                    expected = after(expected, deed)
            self.assertEqual(execute(tuple(code), cells, reach=3), expected)

    def test_calls(self):
        for count in range(4):
            record = Record(90)
            self.assertEqual(execute((STEPS[count],), (1, 2, 3, 4), f=record), (1, 2, 3, 4)[:4 - count] + (90,))
            self.assertEqual(record.calls, [(1, 2, 3, 4)[4 - count:]])
        record = Record(90)
        self.assertEqual(execute((STEPS[0],), (), f=record), (90,))
        self.assertEqual(execute((STEPS[3],), (1, 2, 3), f=lambda one, two, three: 100 * one + 10 * two + three), (123,))

    def test_several_operations(self):
        code = (("call", "max", 2), ("dup", 1), ("call", "neg", 1), ("call", "max", 2), ("swap", 1), ("call", "sub", 2))
        told = execute(code, (9, 3, -4), reach=2, max=max, neg=lambda number: -number, sub=lambda one, two: one - two)
        self.assertEqual(told, (-6,))
        self.assertEqual(execute((("call", "pow", 2),), (3, 2), pow=pow), (9,))
        f, g = Record(1, 2), Record(3)
        self.assertEqual(execute((("call", "f", 0), ("call", "g", 1), ("call", "f", 1)), (), g=g, f=f, h=None), (2,))
        self.assertEqual((f.calls, g.calls), ([(), (3,)], [(1,)]))

    def test_names_of_operations(self):
        names = ("cells", "index", "item", "pop", "dup", "call", "count", "name", "operatio", "below", "args", "kwargs")
        for name in names:
            self.assertEqual(execute((("call", name, 1),), (4,), **{name: abs}), (4,))

    def test_arguments_by_name(self):
        told = [execute((STEPS[1],), (4,), reach=2, f=Record(7)), execute(f=Record(7), reach=2, stack=(4,), code=(STEPS[1],))]
        self.assertEqual(told, [(7,), (7,)])

    def test_default_reach(self):
        stack = tuple(range(30))
        self.assertEqual(execute((("dup", 16),), stack)[-1], 14)
        self.assertEqual(self.raises((("dup", 17),), stack), (Fault, 0, ("dup", 17)))

    def test_high_stacks(self):
        self.assertEqual(execute((("dup", 1),) * 700, (4,)), (4,) * 701)
        self.assertEqual(execute((STEPS[0],) * 50, (), f=lambda: 0), (0,) * 50)


class FaultTest(ExecuteTestCase):
    def test_too_few_values(self):
        for height in range(4):
            for item in STEPS + instructions(3):
                needed = item[2] if item[0] == "call" else 1 if item == POP else item[1] + (item[0] == "swap")
                stack = tuple(range(height))
                if needed <= height:
                    execute((item,), stack, f=Record(5))
                    continue
                record = Record(5)
                self.assertEqual(self.raises((item,), stack, f=record), (Fault, 0, item))
                self.assertEqual(record.calls, [])

    def test_reach(self):
        stack = tuple(range(41))
        for reach in (2, 3, 39):
            for name in ("dup", "swap"):
                self.assertEqual(len(execute(((name, reach),), stack, reach=reach)), 41 + (name == "dup"))
                self.assertEqual(self.raises((POP, (name, reach + 1)), stack, reach=reach), (Fault, 1, (name, reach + 1)))
        # Not valid for the reach, also where there are too few values.
        self.assertEqual(self.raises((("dup", 3),), (1, 2, 3), reach=2), (Fault, 0, ("dup", 3)))

    def test_what_stands_ahead_is_executed(self):
        for wrong in (STEPS[3], ("swap", 2), ("dup", 4), ("dup", 40)):
            record = Record(5, 6, 7)
            code = (STEPS[0], POP, STEPS[1], wrong, STEPS[0])
            self.assertEqual(self.raises(code, (1, 2), reach=3, f=record), (Fault, 3, wrong))
            self.assertEqual(record.calls, [(), (2,)])

    def test_the_first_one(self):
        self.assertEqual(self.raises((("dup", 3), POP, STEPS[3]), (1,), reach=2, f=max), (Fault, 0, ("dup", 3)))
        self.assertEqual(self.raises((POP, STEPS[3], ("dup", 3)), (1,), reach=2, f=max), (Fault, 1, STEPS[3]))
        self.assertEqual(self.raises((POP, POP, ("dup", 3)), (1,), reach=2), (Fault, 1, POP))


class OperationErrorTest(ExecuteTestCase):
    def test_passed_on(self):
        for kind in (ZeroDivisionError, KeyError, Fault, ValueError, LookupError, StopIteration, KeyboardInterrupt):
            raised = kind(1, 2)

            def wrong(*_, raised=raised):
                raise raised

            with self.assertRaises(kind) as caught:
                execute((STEPS[0],), (), f=wrong)
            self.assertIs(caught.exception, raised)
        with self.assertRaises(ZeroDivisionError):
            execute((("call", "div", 2),), (1, 0), div=divmod)

    def test_nothing_is_called_behind_it(self):
        record = Record(5)
        with self.assertRaises(ZeroDivisionError):
            execute((("call", "f", 0), ("call", "div", 2), ("call", "f", 0)), (0,), f=record, div=lambda a, b: b // a)
        self.assertEqual(record.calls, [()])


class AheadTest(ExecuteTestCase):
    """What is raised before anything is executed."""

    def test_reaches(self):
        for thing in STRANGE + [0, 1, 41]:
            before = copy.deepcopy(thing)
            record = Record(5)
            self.assertEqual(self.raises((STEPS[0],), (), reach=thing, f=record), (InvalidReach, thing))
            self.assertEqual((thing, record.calls), (before, []))

    def test_no_code(self):
        for thing in STRANGE + [[POP], [], "pop", (3, POP), ["call", "f", 0]]:
            # One of these values begins with an instruction.
            self.assertEqual(self.raises(thing, (1, 2)), (InvalidShuffle, int(thing == (POP, None))))

    def test_items(self):
        for thing in STRANGE:
            record = Record(5)
            before = copy.deepcopy(thing)
            self.assertEqual(self.raises((STEPS[0], POP, thing), (), f=record), (InvalidShuffle, 2))
            self.assertEqual((thing, record.calls), (before, []))
        for wrong in [
            ("call", "f", 4), ("call", "f", -1), ("call", "f", True), ("call", "F", 1), ("call", "code", 1),
            ("call", "stack", 1), ("call", "reach", 1), ["call", "f", 1], ("call", "f"), (POP,), (), ("dup", 41),
            ("swap", 0), ("push", "a"), ["pop"],
        ]:
            self.assertEqual(self.raises((POP, wrong, 3), (), f=max), (InvalidShuffle, 1), wrong)

    def test_unknown_operations(self):
        record = Record(5, 5, 5)
        code = (("call", "f", 0), ("call", "g", 0), ("call", "h", 0))
        self.assertEqual(self.raises(code, (), f=record), (UnknownOperation, "g"))
        self.assertEqual(self.raises(code, (), f=record, h=record), (UnknownOperation, "g"))
        self.assertEqual(self.raises(code, (), g=record, h=record), (UnknownOperation, "f"))
        self.assertEqual(self.raises(code, (), f=record, g=record), (UnknownOperation, "h"))
        self.assertEqual(self.raises(code, ()), (UnknownOperation, "f"))
        self.assertEqual(self.raises(code, (), F=record, max=max), (UnknownOperation, "f"))
        self.assertEqual(record.calls, [])
        self.assertEqual(self.raises((("call", "neg", 1),), (5,)), (UnknownOperation, "neg"))

    def test_order(self):
        unknown = ("call", "g", 0)
        self.assertEqual(self.raises(3, (), reach=1), (InvalidReach, 1))
        self.assertEqual(self.raises((unknown, 3), (), reach=1), (InvalidReach, 1))
        self.assertEqual(self.raises((unknown, ("dup", 40), 3), (), reach=2), (InvalidShuffle, 2))
        self.assertEqual(self.raises((POP, ("dup", 40), unknown), (), reach=2), (UnknownOperation, "g"))
        self.assertEqual(self.raises((POP, ("dup", 40), unknown), (), reach=2, g=max), (Fault, 0, POP))

    def test_arguments_do_not_change(self):
        code, stack = (("call", "max", 2), ("swap", 1), ("dup", 40)), (4, 5, 6)
        self.raises(code, stack, max=max)
        self.assertEqual((code, stack), ((("call", "max", 2), ("swap", 1), ("dup", 40)), (4, 5, 6)))


if __name__ == "__main__":
    unittest.main()
