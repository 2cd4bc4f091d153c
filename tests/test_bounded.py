"""[14]: bounded machines. What they share with machines is tested in test_machine."""

import unittest

from samples import STRANGE, letters
from test_machine import MachineTestCase, Opposite, state

from deepedge.errors import Fault, InvalidReach, InvalidStack, NoName, NothingToUndo, TooHigh
from deepedge.machine import BoundedMachine, Machine

POP = ("pop",)
DUP = ("dup", 1)


class BoundTest(MachineTestCase):
    def test_is_a_machine(self):
        self.assertTrue(issubclass(BoundedMachine, Machine))
        self.assertEqual((BoundedMachine().most, BoundedMachine(most=640).most), (40, 640))
        self.assertEqual((BoundedMachine().reach, BoundedMachine.MOST_REACH), (16, 40))

    def test_bounds_of_the_constructor(self):
        for height in (0, 1, 40):
            stack = letters(height)
            for most in (height, height + 1, 639, 640):
                self.assertEqual(BoundedMachine(stack, most=most).most, most)
            for most in (height - 1, -1, 641):
                self.assertEqual(self.raised(TooHigh, BoundedMachine, stack, most=most), (most,))

    def test_strange_bounds(self):
        machine = BoundedMachine(most=3)
        for thing in STRANGE:
            self.assertEqual(self.raised(TooHigh, BoundedMachine, most=thing), (thing,))
            self.assertEqual(self.raised(TooHigh, setattr, machine, "most", thing), (thing,))
            self.assertEqual(self.raised(TooHigh, machine.change, most=thing), (thing,))
            self.assertEqual(machine.most, 3)

    def test_assigning(self):
        machine = BoundedMachine(("a", "b"), most=3)
        machine.do(DUP)
        for most in (3, 640, 4):
            machine.most = most
            self.assertEqual(machine.most, most)
        for most in (2, 641):
            self.assertEqual(self.raised(TooHigh, setattr, machine, "most", most), (most,))
        self.assertEqual(machine.most, 4)

    def test_only_by_name(self):
        with self.assertRaises(TypeError):
            BoundedMachine((), 2)


class DoTest(MachineTestCase):
    def test_within_the_bound(self):
        machine = BoundedMachine(("a", "b"), reach=2, most=3)
        self.assertEqual(machine.do(DUP), 3)
        self.assertEqual(machine.do(POP, DUP, POP), 2)

    def test_too_high_on_the_way(self):
        machine = BoundedMachine(("a", "b"), reach=2, most=3)
        machine.do()
        before = state(machine)
        for parts in [(DUP, ("dup", 2), POP), (DUP, DUP), ([POP, DUP, DUP, DUP, POP, POP],)]:
            self.assertEqual(self.raised(TooHigh, machine.do, *parts), (3,))
            self.assertEqual(state(machine), before)
        self.assertEqual(machine.undo(), 2)
        self.raised(NothingToUndo, machine.undo)

    def test_fault_comes_first(self):
        machine = BoundedMachine(("a", "b"), reach=2, most=2)
        before = state(machine)
        self.assertEqual(self.raised(Fault, machine.do, DUP, DUP, ("dup", 3)), (2, ("dup", 3)))
        self.assertEqual(self.raised(Fault, machine.do, [DUP], None), (1, None))
        self.assertEqual(state(machine), before)

    def test_too_high_already(self):
        machine = BoundedMachine(("a", "b", "c"), most=3)
        machine.do(POP, POP)
        machine.most = 2
        self.assertEqual((machine.undo(), machine.most), (3, 2))
        before = state(machine)
        for parts in [(), ((),), (POP,), (POP, POP)]:
            self.assertEqual(self.raised(TooHigh, machine.do, *parts), (2,))
        self.assertEqual(self.raised(Fault, machine.do, ("dup", 4)), (0, ("dup", 4)))
        self.assertEqual(state(machine), before)
        machine.most = 3
        self.assertEqual(machine.do(POP), 2)

    def test_high_bound(self):
        machine = BoundedMachine(("a",), most=640)
        self.assertEqual(machine.do([DUP] * 600), 601)
        self.assertEqual(machine.do([DUP] * 39), 640)
        self.assertEqual(self.raised(TooHigh, machine.do, DUP), (640,))
        self.assertEqual(machine.height, 640)


class ChangeTest(MachineTestCase):
    def test_all_or_none(self):
        machine = BoundedMachine(("a", "b"), reach=2)
        self.assertIsNone(machine.change(most=5, reach=3))
        self.assertEqual((machine.reach, machine.most), (3, 5))
        self.assertIsNone(machine.change(most=7))
        self.assertEqual((machine.reach, machine.most), (3, 7))
        self.assertEqual(self.raised(TooHigh, machine.change, reach=9, most=1), (1,))
        self.assertEqual(self.raised(InvalidReach, machine.change, most=9, reach=1), (1,))
        self.assertEqual((machine.reach, machine.most), (3, 7))

    def test_order_of_errors(self):
        machine = BoundedMachine(("a", "b"), reach=2)
        self.assertEqual(self.raised(InvalidReach, machine.change, most=-1, reach=True), (True,))
        self.assertEqual(self.raised(NoName, machine.change, most=-1, reach=0, stack=()), ("stack",))
        self.assertEqual(self.raised(NoName, machine.change, x=1, most=-1, y=2), ("x",))
        self.assertEqual((machine.reach, machine.most), (2, 40))

    def test_the_reach_of_a_machine_that_is_too_high(self):
        machine = BoundedMachine(("a", "b", "c"), most=3)
        machine.do(POP)
        machine.most = 2
        machine.undo()
        machine.change(reach=5)
        machine.reach = 6
        self.assertEqual((machine.reach, machine.most, machine.height), (6, 2, 3))
        self.assertEqual(self.raised(TooHigh, machine.change, reach=7, most=2), (2,))
        self.assertEqual(machine.reach, 6)


class TrialAndTwinTest(MachineTestCase):
    def test_trial_keeps_the_bound(self):
        machine = BoundedMachine(("a", "b"), most=3)

        def deed(tried):
            tried.most = 9
            tried.do([DUP] * 7)
            return tried.height

        self.assertEqual(machine.trial(deed), 9)
        self.assertEqual((machine.most, machine.height, machine.steps_done), (3, 2, 0))

    def test_trial_keeps_the_bound_if_it_raises(self):
        machine = BoundedMachine(("a", "b"), most=3)

        def deed(tried):
            tried.change(most=9)
            tried.do(None)

        self.assertEqual(self.raised(Fault, machine.trial, deed), (0, None))
        self.assertEqual(machine.most, 3)

    def test_twin_keeps_the_bound(self):
        machine = BoundedMachine(("a", "b"), reach=2, most=3)
        twin = machine.twin()
        self.assertEqual((twin.most, twin == machine), (3, True))
        twin.most = 5
        self.assertEqual((twin.most, machine.most), (5, 3))

    def test_twin_above_the_bound(self):
        machine = BoundedMachine(letters(40), most=80)
        machine.do([DUP] * 30)
        machine.do([POP] * 60)
        machine.most = 12
        machine.undo()
        twin = machine.twin()
        self.assertEqual((twin.height, twin.most, twin.steps_done, twin == machine), (70, 12, 30, True))
        self.assertEqual(twin.undo(), 40)
        self.assertEqual(machine.height, 70)


class TextAndEqualityTest(MachineTestCase):
    def test_texts(self):
        machine = BoundedMachine(("a", "b", "c"), reach=3, most=7)
        self.assertEqual((str(machine), repr(machine)), ("3: a b c", "BoundedMachine(3: a b c)"))
        self.assertEqual((str(BoundedMachine()), repr(BoundedMachine())), ("16: -", "BoundedMachine(16: -)"))

    def test_read_has_the_bound_40(self):
        machine = BoundedMachine.read(str(BoundedMachine(("a",), reach=3, most=7)))
        self.assertEqual((machine.most, machine.reach, machine.stack), (40, 3, ("a",)))
        self.assertIsInstance(machine, BoundedMachine)

    def test_equality(self):
        machine = BoundedMachine(("a",), reach=2, most=7)
        self.assertTrue(machine == BoundedMachine(("a",), reach=2, most=7))
        self.assertFalse(machine == BoundedMachine(("a",), reach=2, most=8))
        self.assertFalse(machine == BoundedMachine(("a",), reach=3, most=7))
        self.assertFalse(machine == BoundedMachine(("b",), reach=2, most=7))
        self.assertFalse(machine == Machine(("a",), reach=2))
        self.assertFalse(Machine(("a",), reach=2) == machine)
        self.assertFalse(machine == Opposite())

    def test_errors_of_a_machine(self):
        self.assertEqual(self.raised(InvalidStack, BoundedMachine, ("a",) * 41, most=50), (40,))


if __name__ == "__main__":
    unittest.main()
