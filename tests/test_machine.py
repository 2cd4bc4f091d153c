"""[13]: machines."""

import copy
import unittest

from samples import STRANGE, letters

from deepedge.errors import Fault, InvalidReach, InvalidStack, NoName, NothingToUndo, ParseError
from deepedge.machine import BoundedMachine, Machine

POP = ("pop",)
BOTH = (Machine, BoundedMachine)


def state(machine):
    """Everything that a machine tells without a change."""
    calls = 0
    other = machine.twin()
    while True:
        try:
            other.undo()
        except NothingToUndo:
            break
        calls += 1
    return (machine.stack, machine.height, machine.steps_done, machine.reach, calls, str(machine), repr(machine))


class Opposite:
    """Equals everything, if it is asked."""

    def __eq__(self, other):
        return True


class MachineTestCase(unittest.TestCase):
    def raised(self, error, function, *arguments, **settings):
        """The arguments of the error that the call raises."""
        with self.assertRaises(error) as caught:
            function(*arguments, **settings)
        return tuple(vars(caught.exception).values())


class ConstructorTest(MachineTestCase):
    def test_defaults(self):
        machine = Machine()
        told = (machine.stack, machine.height, machine.steps_done, machine.reach)
        self.assertEqual(told, ((), 0, 0, 16))
        self.assertEqual((Machine.LEAST_REACH, Machine.MOST_REACH), (2, 40))
        self.assertEqual(Machine(stack=("a",), reach=2), Machine(("a",), reach=2))

    def test_limits(self):
        for kind in BOTH:
            self.assertEqual(kind(letters(40)).stack, letters(40))
            self.assertEqual([kind(reach=reach).reach for reach in (2, 40)], [2, 40])
            self.assertEqual(self.raised(InvalidStack, kind, letters(41)), (40,))
            for reach in (0, 1, 41, -2):
                self.assertEqual(self.raised(InvalidReach, kind, reach=reach), (reach,))

    def test_wrong_stacks(self):
        for kind in BOTH:
            for thing in [["a"], [], "a", None, {}, 3, True]:
                self.assertEqual(self.raised(InvalidStack, kind, thing), (None,))
            self.assertEqual(self.raised(InvalidStack, kind, ("a", "B", 3)), (1,))
            self.assertEqual(self.raised(InvalidStack, kind, ("a",) * 40 + (3,)), (40,))
            self.assertEqual(self.raised(InvalidStack, kind, ("a",) * 39 + (3,) * 3), (39,))

    def test_strange_arguments(self):
        for thing in STRANGE:
            before = copy.deepcopy(thing)
            self.assertEqual(self.raised(InvalidStack, Machine, ("a", thing)), (1,))
            self.assertEqual(self.raised(InvalidReach, Machine, reach=thing), (thing,))
            if thing != ("dup",):
                index = None if not isinstance(thing, tuple) else self.first_wrong(thing)
                self.assertEqual(self.raised(InvalidStack, Machine, thing), (index,))
            self.assertEqual(thing, before)

    def first_wrong(self, things):
        good = [isinstance(thing, str) and thing.isalpha() and thing.islower() for thing in things]
        return good.index(False)

    def test_order_of_errors(self):
        for kind in BOTH:
            self.raised(InvalidStack, kind, [], reach=True)
            self.raised(InvalidStack, kind, ("a", ""), reach=0)
        self.raised(InvalidStack, BoundedMachine, [], reach=0, most=-1)
        self.raised(InvalidReach, BoundedMachine, (), reach=0, most=-1)


class PropertyTest(MachineTestCase):
    def test_up_to_date(self):
        machine = Machine(("a", "b", "c"), reach=2)
        machine.do(POP, ("dup", 2))
        self.assertEqual((machine.stack, machine.height, machine.steps_done), (("a", "b", "a"), 3, 2))
        machine.do(POP)
        self.assertEqual((machine.stack, machine.height, machine.steps_done), (("a", "b"), 2, 3))
        machine.undo(2)
        self.assertEqual((machine.stack, machine.height, machine.steps_done), (("a", "b", "c"), 3, 0))

    def test_only_the_reach_can_be_assigned(self):
        for name in ("stack", "height", "steps_done"):
            with self.assertRaises(AttributeError):
                setattr(Machine(), name, 2)

    def test_assigning_the_reach(self):
        for kind in BOTH:
            machine = kind(("a", "b", "c"), reach=2)
            for reach in (40, 3, 2):
                machine.reach = reach
                self.assertEqual(machine.reach, reach)
            for thing in STRANGE + [1, 41]:
                self.assertEqual(self.raised(InvalidReach, setattr, machine, "reach", thing), (thing,))
                self.assertEqual(machine.reach, 2)
            self.raised(Fault, machine.do, ("dup", 3))
            machine.reach = 3
            self.assertEqual(machine.do(("dup", 3)), 4)


class ChangeTest(MachineTestCase):
    def test_assigns(self):
        machine = Machine()
        self.assertIsNone(machine.change(reach=3))
        self.assertEqual(machine.reach, 3)
        self.assertIsNone(machine.change())
        self.assertEqual(machine.reach, 3)

    def test_wrong_names(self):
        machine = Machine()
        for name in ("stack", "height", "steps_done", "most", "Reach", "x", "change", "_reach"):
            self.assertEqual(self.raised(NoName, machine.change, **{"reach": 3, name: 4}), (name,))
        self.assertEqual(self.raised(NoName, machine.change, reach=None, b=1, a=2), ("b",))
        self.assertEqual(self.raised(NoName, machine.change, a=1, reach=None, b=2), ("a",))
        self.assertEqual(machine, Machine())

    def test_wrong_reaches(self):
        machine = Machine(reach=7)
        for thing in STRANGE:
            self.assertEqual(self.raised(InvalidReach, machine.change, reach=thing), (thing,))
        self.assertEqual(machine.reach, 7)


class DoTest(MachineTestCase):
    def test_heights(self):
        for kind in BOTH:
            machine = kind(("a", "b", "c"), reach=2)
            self.assertEqual(machine.do(POP, ("dup", 1)), 3)
            self.assertEqual(machine.do([POP, POP]), 1)
            self.assertEqual(machine.do(), 1)
            self.assertEqual(machine.do((), []), 1)
            self.assertEqual(machine.do(POP), 0)
            self.assertEqual((machine.stack, machine.steps_done), ((), 5))

    def test_default_reach(self):
        machine = Machine(letters(40))
        self.assertEqual(machine.do(("swap", 16)), 40)
        self.assertEqual(self.raised(Fault, machine.do, ("swap", 17)), (0, ("swap", 17)))

    def test_a_fault_changes_nothing(self):
        for kind in BOTH:
            machine = kind(("a", "b", "c"), reach=2)
            machine.do(POP)
            before = state(machine)
            for index, wrong in [(0, ("swap", 2)), (1, ("dup", 3)), (2, POP)]:
                parts = [[POP] * index, wrong]
                self.assertEqual(self.raised(Fault, machine.do, *parts), (index, wrong))
                self.assertEqual(state(machine), before)
            for thing in STRANGE:
                copied = copy.deepcopy(thing)
                self.assertEqual(self.raised(Fault, machine.do, POP, [thing]), (1, thing))
                self.assertEqual(state(machine), before)
                self.assertEqual(thing, copied)
            self.assertEqual(machine.undo(), 3)

    def test_higher_than_40(self):
        machine = Machine(("a",))
        self.assertEqual(machine.do([("dup", 1)] * 600), 601)
        self.assertEqual(machine.stack, ("a",) * 601)


class UndoTest(MachineTestCase):
    def test_takes_back_calls(self):
        for kind in BOTH:
            machine = kind(("a", "b", "c"), reach=2)
            machine.do(POP, ("dup", 1))
            machine.do(("swap", 2))
            self.assertEqual(machine.undo(), 3)
            self.assertEqual((machine.stack, machine.steps_done), (("a", "b", "b"), 2))
            machine.do(POP)
            machine.do()
            self.assertEqual(machine.undo(count=2), 3)
            self.assertEqual((machine.stack, machine.steps_done), (("a", "b", "b"), 2))
            self.assertEqual(machine.undo(1), 3)
            self.assertEqual((machine.stack, machine.steps_done), (("a", "b", "c"), 0))
            self.assertEqual(self.raised(NothingToUndo, machine.undo), (1,))

    def test_calls_without_instructions_count(self):
        machine = Machine(("a",))
        machine.do()
        machine.do([])
        self.assertEqual(machine.undo(), 1)
        self.assertEqual(machine.undo(), 1)
        self.assertEqual(self.raised(NothingToUndo, machine.undo), (1,))

    def test_wrong_counts(self):
        for kind in BOTH:
            machine = kind(("a", "b", "c"))
            machine.do(POP)
            machine.do(POP)
            before = state(machine)
            for count in STRANGE + [0, 3, -1]:
                self.assertEqual(self.raised(NothingToUndo, machine.undo, count), (count,))
            self.assertEqual(state(machine), before)
            self.assertEqual(machine.undo(2), 3)

    def test_the_reach_stays(self):
        machine = Machine(("a", "b", "c"), reach=2)
        machine.do(POP)
        machine.reach = 7
        machine.undo()
        self.assertEqual((machine.reach, machine.stack), (7, ("a", "b", "c")))

    def test_calls_that_raised_do_not_count(self):
        machine = Machine(("a",))
        self.raised(Fault, machine.do, ("dup", 2))
        self.assertEqual(self.raised(NothingToUndo, machine.undo), (1,))


class TrialTest(MachineTestCase):
    def test_everything_is_taken_back(self):
        for kind in BOTH:
            machine = kind(("a", "b", "c"), reach=2)
            machine.do(POP)
            before = state(machine)

            def deed(tried):
                self.assertIs(tried, machine)
                tried.do(("dup", 2))
                tried.reach = 9
                tried.undo(2)
                tried.do(POP, POP)
                tried.do()
                return [tried.stack]

            self.assertEqual(machine.trial(deed), [("a",)])
            self.assertEqual(state(machine), before)
            self.assertEqual(machine.undo(), 3)

    def test_also_if_it_raises(self):
        for kind in BOTH:
            machine = kind(("a", "b", "c"), reach=2)
            machine.do(POP)
            before = state(machine)
            for error in (ValueError, KeyboardInterrupt):
                def deed(tried, error=error):
                    tried.do(POP)
                    tried.change(reach=5)
                    raise error("told")
                with self.assertRaises(error) as caught:
                    machine.trial(deed=deed)
                self.assertEqual(caught.exception.args, ("told",))
                self.assertEqual(state(machine), before)

    def test_trials_within_trials(self):
        machine = Machine(("a", "b"))

        def deed(tried):
            tried.do(POP)
            inner = tried.trial(lambda one: one.do(POP))
            return (inner, tried.stack, tried.steps_done, tried.undo())

        self.assertEqual(machine.trial(deed), (0, ("a",), 1, 2))
        self.assertEqual(self.raised(NothingToUndo, machine.undo), (1,))


class TwinTest(MachineTestCase):
    def test_equal_and_apart(self):
        for kind in BOTH:
            machine = kind(("a", "b", "c"), reach=2)
            machine.do(POP)
            machine.do()
            twin = machine.twin()
            self.assertEqual(twin, machine)
            self.assertEqual(twin.__class__, kind)
            self.assertEqual(state(twin), state(machine))
            before = state(machine)
            twin.do(("dup", 1))
            twin.reach = 5
            twin.undo(2)
            self.assertEqual(state(machine), before)
            machine.undo(2)
            self.assertEqual((twin.stack, twin.steps_done, twin.undo()), (("a", "b"), 1, 3))
            self.assertEqual(self.raised(NothingToUndo, twin.undo), (1,))

    def test_high_machine(self):
        machine = Machine(("a",))
        machine.do([("dup", 1)] * 600)
        twin = machine.twin()
        self.assertTrue(twin == machine)
        self.assertEqual((twin.height, twin.steps_done, twin.undo()), (601, 600, 1))

    def test_class_of_a_user(self):
        class Own(Machine):
            pass

        self.assertIsInstance(Own(("a",)).twin(), Own)
        self.assertIsInstance(Own.read("2: a"), Own)
        self.assertEqual(Own(("a",)).twin(), Own(("a",)))
        self.assertNotEqual(Own(("a",)), Machine(("a",)))
        self.assertNotEqual(Machine(("a",)), Own(("a",)))


class TextTest(MachineTestCase):
    def test_written(self):
        self.assertEqual([str(Machine(("a", "b", "c"), reach=3)), str(Machine(reach=3))], ["3: a b c", "3: -"])
        self.assertEqual(repr(Machine(("a", "b", "c"), reach=3)), "Machine(3: a b c)")
        self.assertEqual(repr(Machine(reach=40)), "Machine(40: -)")

    def test_read_back(self):
        for kind in BOTH:
            for stack in [(), ("a",), letters(40), ("abcdefgh",) * 40]:
                for reach in (2, 9, 10, 40):
                    machine = kind(stack, reach=reach)
                    again = kind.read(str(machine))
                    self.assertEqual(again, machine)
                    self.assertEqual((again.__class__, again.stack, again.steps_done), (kind, stack, 0))

    def test_wrong_words(self):
        high = "a " * 39
        for kind in BOTH:
            for text, word in [
                ("", 0), (" ", 0), ("3", 0), ("3 a", 0), (":", 0), (": a", 0), ("3:a", 0), ("03: a", 0), ("+3: a", 0),
                ("-3: a", 0), ("3 : a", 0), ("1: a", 0), ("0: -", 0), ("41: a", 0), ("99: a", 0), ("3.: a", 0),
                ("3:: a", 0), ("3;: a", 0), ("3; a", 0), ("b: a", 0), ("\n3: a", 0), ("3\n: a", 0), ("3:\n a", 0),
                (" 3: a", 0), ("1: B", 0), ("3:", 1), ("3: ", 1), ("3:  a", 1), ("3: a  b", 2), ("3: a ", 2),
                ("3: A", 1), ("3: a b3 C", 2), ("3: abcdefghi", 1), ("3: a\n", 1), ("3: a\nb", 1), ("3: - ", 1),
                ("3: - a", 1), ("3: a -", 2), ("3: a - b", 2), ("3: - -", 1), ("3: --", 1), ("3: -\n", 1), ("3: 3:", 1),
                ("3: " + high + "a a", 41), ("3: " + high + "a A", 41), ("3: " + high + "A a", 40),
                ("3: " + high + "a ", 41), ("3: " + high + "a a a B", 41), ("3: " + high, 40),
            ]:
                self.assertEqual(self.raised(ParseError, kind.read, text), (0, word), text)

    def test_no_strings(self):
        for thing in STRANGE:
            self.assertEqual(self.raised(ParseError, Machine.read, thing), (0, 0))

    def test_text_of_a_higher_machine(self):
        machine = Machine(("a",) * 40)
        machine.do(("dup", 1))
        self.assertEqual(self.raised(ParseError, Machine.read, str(machine)), (0, 41))

    def test_by_name(self):
        self.assertEqual(Machine.read(text="2: a b b"), Machine(("a", "b", "b"), reach=2))


class SizeAndEqualityTest(MachineTestCase):
    def test_length_and_truth(self):
        self.assertEqual([len(Machine()), len(Machine(("a", "b")))], [0, 2])
        self.assertEqual([bool(Machine()), bool(Machine(("a",)))], [False, True])

    def test_equality(self):
        machine = Machine(("a", "b"), reach=2)
        self.assertTrue(machine == Machine(("a", "b"), reach=2))
        self.assertFalse(machine != Machine(("a", "b"), reach=2))
        self.assertFalse(machine == Machine(("a", "b"), reach=3))
        self.assertFalse(machine == Machine(("b", "a"), reach=2))
        self.assertFalse(machine == Machine(("a",), reach=2))
        self.assertTrue(machine != Machine(("a",), reach=2))

    def test_the_past_does_not_matter(self):
        machine = Machine(("a", "b"))
        machine.do(POP)
        self.assertEqual(machine, Machine(("a",)))

    def test_nothing_else_is_equal(self):
        machine = Machine(("a",), reach=2)
        for thing in STRANGE + [("a",), "2: a", Opposite()]:
            self.assertFalse(machine == thing)
        bounded = BoundedMachine(("a",), reach=2)
        self.assertFalse(machine == bounded)
        self.assertFalse(bounded == machine)
        for one in (machine, bounded):
            self.assertFalse(one == self.copy_of_another_class(one))

    def copy_of_another_class(self, machine):
        """An object that differs from the machine in its class alone, which has the same name."""
        other = type(machine.__class__.__name__, (), {})()
        vars(other).update(vars(machine))
        return other


class OwnMethodTest(unittest.TestCase):
    def test_defined_in_the_class_itself(self):
        shared = ["change", "do", "trial", "twin", "read", "__init__", "__eq__", "__str__", "__repr__"]
        for kind, more in [
            (Machine, ["stack", "height", "steps_done", "reach", "undo", "__len__", "LEAST_REACH", "MOST_REACH"]),
            (BoundedMachine, ["most"]),
        ]:
            for name in shared + more:
                self.assertIn(name, vars(kind))


if __name__ == "__main__":
    unittest.main()
