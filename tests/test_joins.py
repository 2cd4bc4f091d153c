"""[42] to [46]: joins and loops."""

import copy
import random
import unittest

from samples import STRANGE, letters, raised_by, reached_by_fact

from deepedge.errors import InvalidReach, InvalidStack, InvalidWanted, NoMember, NoName, NothingToUndo, TooMany
from deepedge.instructions import is_shuffle
from deepedge.joins import Join, Loop
from deepedge.layoutcheck import check_barred
from deepedge.layouts import layout_for
from deepedge.machine import run
from deepedge.values import is_stack

NAMES = ("a", "b", "c", "d")


def state(join):
    """What a join tells of itself, but for what may be any of several."""
    return (join.stacks, join.wanted, join.reach, len(join), str(join), repr(join), join.layout, join.rows)


class JoinTestCase(unittest.TestCase):
    def check(self, join, stacks, wanted, reach, uses=0):
        """Check that all that the join tells belongs to this state."""
        self.assertEqual((join.stacks, join.wanted, join.reach), (stacks, wanted, reach))
        self.assertEqual(len(join), len(stacks))
        self.assertEqual(repr(join), f"{'Loop' if uses else 'Join'}({len(stacks)} stacks)")
        lines = [f"reach {reach}", f"uses {uses}", "wanted " + (" ".join(wanted) or "-")]
        lines = lines[:1] + lines[2:] if uses == 0 else lines
        self.assertEqual(str(join), "\n".join(lines + ["stack " + (" ".join(stack) or "-") for stack in stacks]))
        self.assertEqual(type(join).read(str(join)), join)
        if layout_for(*stacks, wanted=wanted, reach=reach)[0] == "barred":
            self.assertIsNone(join.layout)
            self.assertIs(check_barred(stacks, wanted, join.rows, reach=reach), True)
            self.assertEqual(list(join.shuffles()), [])
        else:
            self.check_layout(join, uses)
        if uses:
            self.check_back(join, uses)

    def check_layout(self, join, uses):
        self.assertIsNone(join.rows)
        layout = join.layout
        self.assertIs(is_stack(layout[:len(layout) - uses]), True)
        self.assertLessEqual(set(join.wanted), set(layout))
        if uses:
            self.assertEqual(layout[len(layout) - uses:], layout[len(layout) - uses - 1:-uses] * uses)
        shuffles = list(join.shuffles())
        self.assertEqual(len(shuffles), len(join.stacks))
        for stack, deeds in zip(join.stacks, shuffles):
            self.assertTrue(reached_by_fact(stack, layout, join.reach))
            self.assertTrue(reached_by_fact(stack, layout[:len(layout) - uses], join.reach))
            self.assertIs(is_shuffle(deeds, reach=join.reach), True)
            self.assertEqual(run(stack, deeds, reach=join.reach), layout)

    def check_back(self, loop, uses):
        self.assertEqual(loop.uses, uses)
        if loop.layout is None:
            self.assertIsNone(loop.back_shuffle())
            return
        deeds = loop.back_shuffle()
        self.assertIs(is_shuffle(deeds, reach=loop.reach), True)
        self.assertEqual(run(loop.layout[:-uses], deeds, reach=loop.reach), loop.layout)

    def raises(self, function, *arguments, **settings):
        """The class and the only attribute of the error that the call raises."""
        before = copy.deepcopy((arguments, settings))
        error = raised_by(function, *arguments, **settings)
        self.assertIsNotNone(error, before)
        # A join among the arguments may change, but not by a call that raises an error.
        self.assertEqual((arguments, settings), before)
        return (type(error), *vars(error).values())

    def refuses(self, join, expected, function, *arguments, **settings):
        """Check that the call raises the error and changes nothing of the join."""
        before = state(join)
        self.assertEqual(self.raises(function, *arguments, **settings), expected)
        self.assertEqual(state(join), before)


def both(*stacks, wanted=("a",), reach=2):
    """A join and a loop of the same stacks."""
    return Join(*stacks, wanted=wanted, reach=reach), Loop(*stacks, wanted=wanted, reach=reach)


class ConstructorTest(JoinTestCase):
    def test_defaults(self):
        self.check(Join(("a", "b")), (("a", "b"),), (), 16)
        self.check(Join(()), ((),), (), 16)
        self.check(Loop(("a",), wanted=("a",)), (("a",),), ("a",), 16, 1)

    def test_by_name(self):
        self.check(Join(("a",), reach=3, wanted=("a", "a")), (("a",),), ("a",), 3)
        self.check(Loop(("a",), uses=5, reach=3, wanted=("a",)), (("a",),), ("a",), 3, 5)

    def test_class_values(self):
        self.assertEqual((Join.MOST_STACKS, Join.MOST_WANTED), (6, 12))
        self.assertEqual((Loop.MOST_STACKS, Loop.MOST_WANTED, Loop.MOST_USES), (6, 12, 8))
        self.assertTrue(issubclass(Loop, Join))

    def test_wanted_values(self):
        stack = letters(13)
        for wanted in [(), stack[:12], stack[11::-1], ("at",) * 12, ("au", "at", "au")]:
            self.check(Join(stack, stack, wanted=wanted), (stack,) * 2, tuple(sorted(set(wanted))), 16)
        for kind in (Join, Loop):
            self.assertEqual(self.raises(kind, stack, wanted=stack), (InvalidWanted, stack[12]))
            self.assertEqual(self.raises(kind, stack, wanted=("at",) * 13), (InvalidWanted, "at"))
            self.assertEqual(self.raises(kind, stack, wanted=stack[:12] + (3,)), (InvalidWanted, 3))
            self.assertEqual(self.raises(kind, stack, wanted=stack[:11] + (3, 4)), (InvalidWanted, 3))
            self.assertEqual(self.raises(kind, stack, wanted=["at"]), (InvalidWanted, ["at"]))

    def test_stacks(self):
        for kind in (Join, Loop):
            self.assertEqual(len(kind(*[("a",)] * 6, wanted=("a",))), 6)
            self.assertEqual(self.raises(kind, wanted=("a",)), (InvalidStack, 0))
            self.assertEqual(self.raises(kind, *[("a",)] * 7, wanted=("a",)), (InvalidStack, 6))
            self.assertEqual(self.raises(kind, *[("a",)] * 6, 3, wanted=("a",)), (InvalidStack, 6))
            self.assertEqual(self.raises(kind, *[("a",)] * 5, 3, 4, wanted=("a",)), (InvalidStack, 5))
            self.assertEqual(kind(letters(40), wanted=("at",)).stacks, (letters(40),))
            self.assertEqual(self.raises(kind, ("a",), letters(40) + ("a",)), (InvalidStack, 1))

    def test_strange_arguments(self):
        for thing in STRANGE:
            for kind in (Join, Loop):
                self.assertEqual(self.raises(kind, ("a",), wanted=("a", thing)), (InvalidWanted, thing))
                self.assertEqual(self.raises(kind, ("a",), wanted=("a",), reach=thing), (InvalidReach, thing))
                if thing != ("dup",):
                    self.assertEqual(self.raises(kind, ("a",), thing, wanted=("a",)), (InvalidStack, 1))
                    wrong = thing
                    if isinstance(thing, tuple):
                        wrong = next(item for item in thing if not (isinstance(item, str) and item.isalpha()))
                    self.assertEqual(self.raises(kind, ("a",), wanted=thing), (InvalidWanted, wrong))
        for reach in (0, 1, 41):
            self.assertEqual(self.raises(Join, ("a",), reach=reach), (InvalidReach, reach))

    def test_order_of_errors(self):
        for kind in (Join, Loop):
            self.assertEqual(self.raises(kind, ("a",), [], wanted=3, reach=0), (InvalidStack, 1))
            self.assertEqual(self.raises(kind, wanted=3, reach=0), (InvalidStack, 0))
            self.assertEqual(self.raises(kind, ("a",), wanted=3, reach=0), (InvalidWanted, 3))
            self.assertEqual(self.raises(kind, ("a",), wanted=("a",), reach=0), (InvalidReach, 0))

    def test_a_loop_needs_a_wanted_value(self):
        self.assertEqual(self.raises(Loop, ("a",)), (InvalidWanted, ()))
        self.assertEqual(self.raises(Loop, ("a",), reach=0), (InvalidWanted, ()))
        self.assertEqual(self.raises(Loop, 3), (InvalidStack, 0))
        self.assertEqual(self.raises(Loop, ("a",), wanted=()), (InvalidWanted, ()))
        self.assertEqual(self.raises(Loop, ("a",), wanted=[]), (InvalidWanted, []))


class AssignmentTest(JoinTestCase):
    def test_assigned(self):
        for join in both(NAMES, NAMES[::-1]):
            uses = int(isinstance(join, Loop))
            join.wanted = ("d", "a", "d")
            self.check(join, (NAMES, NAMES[::-1]), ("a", "d"), 2, uses)
            join.reach = 40
            self.check(join, (NAMES, NAMES[::-1]), ("a", "d"), 40, uses)
            join.wanted = NAMES
            self.check(join, (NAMES, NAMES[::-1]), NAMES, 40, uses)
            self.assertIsNotNone(join.layout)
            join.reach = 2
            self.check(join, (NAMES, NAMES[::-1]), NAMES, 2, uses)
            self.assertIsNone(join.layout)

    def test_refused(self):
        for join in both(NAMES):
            for thing in STRANGE:
                self.refuses(join, (InvalidReach, thing), setattr, join, "reach", thing)
                self.refuses(join, (InvalidWanted, thing), setattr, join, "wanted", ("a", thing))
            self.refuses(join, (InvalidWanted, None), setattr, join, "wanted", None)
            self.refuses(join, (InvalidWanted, ["a"]), setattr, join, "wanted", ["a"])
            self.refuses(join, (InvalidWanted, "a"), setattr, join, "wanted", ("a",) * 13)
            self.refuses(join, (NothingToUndo, 1), join.undo)

    def test_wanted_values_of_a_loop(self):
        join, loop = both(NAMES)
        join.wanted = ()
        self.check(join, (NAMES,), (), 2)
        self.refuses(loop, (InvalidWanted, ()), setattr, loop, "wanted", ())
        self.refuses(loop, (InvalidWanted, ()), loop.change, wanted=())
        self.refuses(loop, (InvalidWanted, ()), loop.change, reach=0, wanted=())
        self.refuses(loop, (NoName, "uses"), loop.change, reach=0, wanted=(), uses=2)

    def test_what_cannot_be_assigned(self):
        for join in both(NAMES):
            for name in ("stacks", "layout", "rows") + (("uses",) if isinstance(join, Loop) else ()):
                before = state(join)
                with self.assertRaises(AttributeError):
                    setattr(join, name, getattr(join, name))
                self.assertEqual(state(join), before)


class ChangeTest(JoinTestCase):
    def test_assigns(self):
        for join in both(NAMES, reach=16):
            uses = int(isinstance(join, Loop))
            self.assertIsNone(join.change(reach=3, wanted=("b", "a")))
            self.check(join, (NAMES,), ("a", "b"), 3, uses)
            self.assertIsNone(join.change())
            self.assertIsNone(join.change(wanted=("c",)))
            self.check(join, (NAMES,), ("c",), 3, uses)
            self.assertIsNone(join.change(reach=40))
            self.check(join, (NAMES,), ("c",), 40, uses)

    def test_names(self):
        for join in both(NAMES):
            for name in ("stacks", "layout", "rows", "uses", "x", "Reach", "_reach", "change", "text"):
                self.refuses(join, (NoName, name), join.change, **{"reach": 3, name: 4, "wanted": 5, "y": 3})
            self.refuses(join, (NoName, "b"), join.change, wanted=None, b=1, reach=0, a=2)

    def test_all_or_none(self):
        for join in both(NAMES):
            self.refuses(join, (InvalidWanted, 3), join.change, reach=0, wanted=3)
            self.refuses(join, (InvalidWanted, 3), join.change, reach=5, wanted=("a", 3))
            self.refuses(join, (InvalidReach, 0), join.change, reach=0, wanted=("b",))
            for thing in STRANGE:
                self.refuses(join, (InvalidReach, thing), join.change, wanted=("b",), reach=thing)
            self.refuses(join, (NothingToUndo, 1), join.undo)


class AddAndRemoveTest(JoinTestCase):
    def test_add(self):
        for join in both(NAMES):
            uses = int(isinstance(join, Loop))
            self.assertEqual(join.add(NAMES[::-1]), 1)
            self.check(join, (NAMES, NAMES[::-1]), ("a",), 2, uses)
            # The same stack once more.
            self.assertEqual(join.add(stack=NAMES), 2)
            self.check(join, (NAMES, NAMES[::-1], NAMES), ("a",), 2, uses)
            self.assertEqual(join.add(()), 3)
            self.check(join, (NAMES, NAMES[::-1], NAMES, ()), ("a",), 2, uses)
            self.assertIsNone(join.layout)
            self.assertEqual([join.add(letters(40)), join.add(("a",))], [4, 5])
            self.refuses(join, (TooMany, 6), join.add, ("a",))
            self.refuses(join, (InvalidStack, 6), join.add, ["a"])

    def test_wrong_stacks(self):
        for join in both(NAMES, NAMES):
            for thing in STRANGE + [["a"], "a", None, letters(40) + ("a",)]:
                if thing != ("dup",):
                    self.refuses(join, (InvalidStack, 2), join.add, thing)
            self.refuses(join, (NothingToUndo, 1), join.undo)

    def test_remove(self):
        stacks = (NAMES, ("a",), NAMES, ("b", "a"))
        for join in both(*stacks):
            uses = int(isinstance(join, Loop))
            self.assertEqual(join.remove(1), ("a",))
            self.check(join, (NAMES, NAMES, ("b", "a")), ("a",), 2, uses)
            self.assertEqual(join.remove(index=2), ("b", "a"))
            self.assertEqual(join.remove(0), NAMES)
            self.check(join, (NAMES,), ("a",), 2, uses)
            for index in (0, 1, -1, None):
                self.refuses(join, (NoMember, index), join.remove, index)
            self.assertEqual(join.add(("a",)), 1)
            self.assertEqual(join.remove(0), NAMES)
            self.check(join, (("a",),), ("a",), 2, uses)

    def test_wrong_indexes(self):
        for join in both(NAMES, ("a",), ("b", "a")):
            for thing in STRANGE + [3, -3, 10 ** 20]:
                self.refuses(join, (NoMember, thing), join.remove, thing)
            self.refuses(join, (NothingToUndo, 1), join.undo)


class UndoTest(JoinTestCase):
    def test_each_kind(self):
        for join in both(NAMES, reach=3):
            uses = int(isinstance(join, Loop))
            join.add(("a",))
            join.wanted = ("b",)
            join.change()
            join.change(wanted=("c",), reach=2)
            join.reach = 5
            join.remove(0)
            self.check(join, (("a",),), ("c",), 5, uses)
            for stacks, wanted, reach in [
                ((NAMES, ("a",)), ("c",), 5), ((NAMES, ("a",)), ("c",), 2), ((NAMES, ("a",)), ("b",), 3),
                ((NAMES, ("a",)), ("b",), 3), ((NAMES, ("a",)), ("a",), 3), ((NAMES,), ("a",), 3),
            ]:
                self.assertIsNone(join.undo())
                self.check(join, stacks, wanted, reach, uses)
            self.refuses(join, (NothingToUndo, 1), join.undo)

    def test_assignments_of_the_same(self):
        for join in both(NAMES):
            join.reach = join.reach
            join.wanted = join.wanted
            join.undo()
            join.undo()
            self.refuses(join, (NothingToUndo, 1), join.undo)

    def test_random_calls(self):
        chance = random.Random(251)
        for _ in range(60):
            uses = chance.choice([0, 1, 2, 8])
            stacks = [tuple(chance.sample(NAMES, chance.choice([2, 3, 4, 4]))) for _ in range(chance.randrange(1, 4))]
            wanted = tuple(chance.sample(NAMES, chance.choice([1, 2, 3])))
            settings = {"wanted": wanted, "reach": chance.choice([2, 3])}
            join = Loop(*stacks, uses=uses, **settings) if uses else Join(*stacks, **settings)
            twin = Loop(*stacks, uses=uses, **settings) if uses else Join(*stacks, **settings)
            begun = state(join)
            present = [tuple(stacks), tuple(sorted(wanted)), settings["reach"]]
            past = []
            for _ in range(25):
                self.one_call(chance, join, present, past)
                self.check(join, *present, uses)
            self.assertEqual(state(twin), begun)
            while past:
                join.undo()
                present = past.pop()
                self.check(join, *present, uses)
            self.assertEqual(state(join), begun)
            self.refuses(join, (NothingToUndo, 1), join.undo)

    def one_call(self, chance, join, present, past):
        """Make one call, and keep the lists of the present state and of the past ones."""
        before = list(present)
        kind = chance.choice(["add", "add", "remove", "change", "wanted", "reach", "undo", "refused"])
        stack = tuple(chance.sample(NAMES, chance.choice([2, 3, 4, 4])))
        wanted, reach = tuple(chance.sample(NAMES, chance.choice([1, 2, 3]))), chance.choice([2, 3, 4])
        if kind == "undo":
            if past:
                self.assertIsNone(join.undo())
                present[:] = past.pop()
            else:
                self.refuses(join, (NothingToUndo, 1), join.undo)
            return
        if kind == "refused":
            self.refuses(join, (InvalidReach, 1), join.change, wanted=wanted, reach=1)
            return
        if kind == "add":
            if len(join) == 6:
                self.refuses(join, (TooMany, 6), join.add, stack)
                return
            self.assertEqual(join.add(stack), len(present[0]))
            present[0] = present[0] + (stack,)
        elif kind == "remove":
            index = chance.randrange(len(join))
            if len(join) == 1:
                self.refuses(join, (NoMember, 0), join.remove, 0)
                return
            self.assertEqual(join.remove(index), present[0][index])
            present[0] = present[0][:index] + present[0][index + 1:]
        elif kind == "change":
            join.change(reach=reach, wanted=wanted)
            present[1:] = [tuple(sorted(wanted)), reach]
        elif kind == "wanted":
            join.wanted = wanted
            present[1] = tuple(sorted(wanted))
        else:
            join.reach = reach
            present[2] = reach
        past.append(before)


class LayoutTest(JoinTestCase):
    def test_example(self):
        join = Join(("a", "b"), ("b", "a"), wanted=("a",), reach=2)
        self.assertEqual(join.add(("c",)), 2)
        self.assertEqual(join.rows, (("missing", 2, "a"),))
        self.check(join, (("a", "b"), ("b", "a"), ("c",)), ("a",), 2)

    def test_random_joins(self):
        chance = random.Random(252)
        told = {"layout": 0, "barred": 0, "deep": 0}
        for _ in range(600):
            bottom = letters(chance.choice([0, 0, 1, 3, 30]))
            stacks = [bottom + tuple(chance.sample(NAMES, chance.choice([3, 4]))) for _ in range(chance.randrange(1, 7))]
            wanted = tuple(chance.sample(NAMES + bottom, chance.randrange(1, min(12, len(bottom) + 4) + 1)))
            reach = chance.choice([2, 3, 4])
            self.check(Join(*stacks, wanted=wanted, reach=reach), tuple(stacks), tuple(sorted(wanted)), reach)
            for uses in (1, 3, 8):
                loop = Loop(*stacks, wanted=wanted, reach=reach, uses=uses)
                self.check(loop, tuple(stacks), tuple(sorted(wanted)), reach, uses)
                told["layout" if loop.layout else "barred"] += 1
                told["deep"] += bool(bottom and loop.layout and loop.layout[:len(bottom)] == bottom)
        self.assertGreater(min(told.values()), 50, told)

    def test_uses(self):
        for uses in range(1, 9):
            loop = Loop(("a",), ("b", "a"), wanted=("a",), reach=2, uses=uses)
            self.check(loop, (("a",), ("b", "a")), ("a",), 2, uses)
            self.assertEqual(loop.layout[-uses - 1:], ("a",) * (uses + 1))

    def test_a_layout_of_more_than_40_cells(self):
        stack = letters(40)
        loop = Loop(stack, stack, wanted=stack[28:], reach=2, uses=8)
        self.check(loop, (stack, stack), stack[28:], 2, 8)
        self.assertEqual(len(loop.layout), 48)
        join = Join(stack, stack, wanted=stack[28:], reach=2)
        self.check(join, (stack, stack), stack[28:], 2)
        self.assertEqual(len(join.layout), 40)

    def test_shuffles_are_yielded(self):
        for join in both(NAMES, NAMES[::-1]):
            found = join.shuffles()
            first = next(found)
            self.assertEqual(run(NAMES, first, reach=2), join.layout)
            self.assertEqual(len(list(found)), 1)
            self.assertEqual(list(join.shuffles()), list(join.shuffles()))


class EqualityTest(JoinTestCase):
    def test_equal(self):
        join = Join(NAMES, ("a",), wanted=("b", "a"), reach=3)
        self.assertTrue(join == Join(NAMES, ("a",), wanted=("a", "b", "a"), reach=3))
        self.assertFalse(join != Join(NAMES, ("a",), wanted=("a", "b", "a"), reach=3))
        for other in [
            Join(("a",), NAMES, wanted=("b", "a"), reach=3), Join(NAMES, wanted=("b", "a"), reach=3),
            Join(NAMES, ("a",), wanted=("b",), reach=3), Join(NAMES, ("a",), wanted=("b", "a"), reach=4),
            Join(NAMES, ("a",), ("a",), wanted=("b", "a"), reach=3), Loop(NAMES, ("a",), wanted=("b", "a"), reach=3),
        ]:
            self.assertFalse(join == other)
            self.assertFalse(other == join)
            self.assertTrue(join != other)

    def test_loops(self):
        loop = Loop(NAMES, wanted=("a",), reach=3, uses=2)
        self.assertTrue(loop == Loop(NAMES, wanted=("a", "a"), reach=3, uses=2))
        for other in [
            Loop(NAMES, wanted=("a",), reach=3, uses=1), Loop(NAMES, wanted=("a",), reach=4, uses=2),
            Loop(NAMES, wanted=("b",), reach=3, uses=2), Loop(NAMES, NAMES, wanted=("a",), reach=3, uses=2),
            Join(NAMES, wanted=("a",), reach=3),
        ]:
            self.assertFalse(loop == other)
            self.assertFalse(other == loop)

    def test_nothing_else(self):
        for join in both(NAMES):
            for thing in STRANGE + [join.stacks, str(join), NAMES]:
                self.assertFalse(join == thing)
                self.assertTrue(join != thing)

    def test_the_past_does_not_matter(self):
        for join, other in zip(both(NAMES), both(NAMES)):
            join.add(("a",))
            self.assertNotEqual(join, other)
            join.undo()
            self.assertEqual(join, other)
            join.add(("a",))
            join.remove(1)
            self.assertEqual(join, other)


class OwnMethodTest(unittest.TestCase):
    def test_defined_in_the_class_itself(self):
        shared = ["__init__", "__eq__", "__str__", "__repr__", "read"]
        for kind, more in [
            (Join, [
                "stacks", "layout", "rows", "wanted", "reach", "change", "add", "remove", "shuffles", "undo", "__len__",
                "MOST_STACKS", "MOST_WANTED",
            ]),
            (Loop, ["uses", "back_shuffle", "MOST_USES"]),
        ]:
            for name in shared + more:
                self.assertIn(name, vars(kind))


if __name__ == "__main__":
    unittest.main()
