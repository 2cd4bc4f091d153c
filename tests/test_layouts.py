"""[3], [6], [7], [42], [43], [44]: layout_for."""

import copy
import itertools
import random
import unittest

from samples import STRANGE, all_stacks, letters, raised_by, reached_by_fact

from deepedge.errors import InvalidReach, InvalidStack, InvalidWanted
from deepedge.layoutcheck import check_barred
from deepedge.layouts import layout_for
from deepedge.values import is_reach, is_stack, is_value


class LayoutTestCase(unittest.TestCase):
    def check(self, *stacks, wanted=(), reach=16):
        """Check what `layout_for` returns by the words of [42] and [43], and return it."""
        found = layout_for(*stacks, wanted=wanted, reach=reach)
        self.assertIsInstance(found, tuple)
        kind, thing = found
        if kind == "layout":
            self.assertIs(is_stack(thing), True)
            self.assertLessEqual(set(wanted), set(thing))
            for stack in stacks:
                self.assertIs(reached_by_fact(stack, thing, reach), True, (stacks, wanted, reach, thing))
        else:
            self.assertEqual(kind, "barred")
            self.assertIs(check_barred(stacks, wanted, thing, reach=reach), True)
        return found

    def raises(self, kind, *stacks, **settings):
        """The only argument of the error of this kind that the call raises."""
        error = raised_by(layout_for, *stacks, **settings)
        self.assertIs(type(error), kind, (stacks, settings, error))
        return error.index if kind is InvalidStack else error.value


class LayoutForTest(LayoutTestCase):
    def test_small(self):
        barred = ("barred", (("missing", 1, "b"), ("missing", 1, "b")))
        self.assertEqual(layout_for(("a", "b"), ("a", "c"), wanted=("b",), reach=2), barred)
        self.assertEqual(self.check(("a", "b"), ("b", "a"), wanted=("a", "b"), reach=2)[0], "layout")
        self.assertEqual(self.check(()), ("layout", ()))
        self.assertEqual(self.check((), ("a",), ()), ("layout", ()))
        self.assertEqual(self.check(("a",), wanted=("a",))[0], "layout")
        self.assertEqual(self.check((), wanted=("a",)), ("barred", (("missing", 0, "a"),)))

    def test_small_stacks_against_a_search(self):
        chance = random.Random(101)
        told = {"missing": 0, "many": 0, "edge": 0, "layout": 0}
        # A layout need not be as low as the stacks: some of the words are higher.
        words = [(word, set(word)) for word in list(all_stacks("abcde", 5)) + list(itertools.product("abcd", repeat=6))]
        for _ in range(400):
            names = chance.choice(["abcd", "abcd", "abcde"])
            bottom = tuple(chance.choice(names) for _ in range(chance.choice([0, 0, 1, 2])))
            uppers = [tuple(chance.sample(names, len(names))) for _ in range(chance.randrange(1, 4))]
            stacks = [(bottom + upper)[:chance.choice([3, 5, 5, 5, 5, 5])] for upper in uppers]
            reach = chance.choice([2, 2, 3])
            wanted = tuple(chance.sample(names, chance.choice([reach, reach + 1, reach + 1, len(names)])))
            exists = any(
                values.issuperset(wanted) and all(reached_by_fact(stack, word, reach) for stack in stacks)
                for word, values in words
            )
            kind, thing = self.check(*stacks, wanted=wanted, reach=reach)
            self.assertEqual(kind, "layout" if exists else "barred", (stacks, wanted, reach))
            for row in [("layout",)] if exists else thing:
                told[row[0]] += 1
        self.assertGreater(min(told.values()), 10, told)

    def test_how_many_values_are_open(self):
        for reach in (2, 3, 9, 10):
            names = letters(reach + 2)
            turned = names[1:] + names[:1]
            for wanted in (names, names[::-1]):
                self.assertEqual(self.check(names, turned, wanted=wanted[:reach], reach=reach)[0], "layout")
                # With one value more, both edges must be wanted.
                edges = {names[0], turned[0]}
                expected = "layout" if edges <= set(wanted[:reach + 1]) else "barred"
                self.assertEqual(self.check(names, turned, wanted=wanted[:reach + 1], reach=reach)[0], expected)
                self.assertEqual(self.check(names, turned, wanted=wanted, reach=reach)[0], "barred")
        self.assertEqual(self.check(("a", "b", "c"), ("b", "a", "c"), wanted=("a", "b", "c"), reach=2)[0], "layout")
        self.assertEqual(
            self.check(("a", "b", "c"), ("x", "a", "b", "c"), wanted=("a", "b", "c"), reach=2),
            ("barred", (("edge", 1, ("a", "b", "c")),)),
        )
        self.assertEqual(
            self.check(("a", "b", "c", "d"), ("b", "a", "c", "d"), wanted=("d", "c", "b", "a"), reach=2),
            ("barred", (("many", ("a", "b", "c", "d")),)),
        )

    def test_values_below_the_floor(self):
        stack, other = ("a", "b", "c", "d", "e"), ("a", "b", "e", "c", "d")
        self.assertEqual(self.check(stack, other, wanted=tuple("abcde"), reach=2)[0], "layout")
        self.assertEqual(self.check(stack, other[:4], wanted=tuple("abcde"), reach=2)[0], "barred")
        self.assertEqual(self.check(letters(40), wanted=letters(40)[28:], reach=2)[0], "layout")
        self.assertEqual(self.check(letters(40), letters(40)[:39], wanted=letters(40)[:12], reach=2)[0], "layout")
        self.assertEqual(self.check(("x",) + letters(12), wanted=letters(12), reach=2)[0], "layout")

    def test_one_stack(self):
        for stack in all_stacks("abc", 4):
            for wanted in all_stacks("abc", 3):
                kind, _ = self.check(stack, wanted=wanted, reach=2)
                # The stack is a layout itself.
                self.assertEqual(kind == "layout", set(wanted) <= set(stack))

    def test_six_stacks(self):
        stacks = list(itertools.permutations(("a", "b", "c")))
        self.assertEqual(self.check(*stacks, wanted=("a", "b", "c"), reach=2)[0], "layout")
        self.assertEqual(self.check(*stacks[:5], ("a", "b", "b"), wanted=("a", "b", "c"), reach=2)[0], "barred")
        self.assertEqual(self.check(*[("p",) + stack for stack in stacks], wanted=("p", "a", "b", "c"), reach=2)[0], "layout")
        self.assertEqual(self.check(*[(p,) + stacks[0] for p in "pqrstu"], wanted=("a", "b", "c"), reach=2)[0], "barred")
        self.assertEqual(self.check(*stacks[:1] * 6, wanted=("a",))[0], "layout")

    def test_wanted_values(self):
        names = letters(12)
        self.assertEqual(self.check(names, names[::-1], wanted=())[0], "layout")
        self.assertEqual(self.check(names, names[::-1], wanted=names)[0], "layout")
        self.assertEqual(self.check(names, names[::-1], wanted=names[:1] * 12, reach=2)[0], "layout")
        for stacks in [(("a", "b", "c"), ("b", "c", "x")), (("a", "b", "c"), ("c", "b", "a"))]:
            expected = layout_for(*stacks, wanted=("a", "b"), reach=2)
            for wanted in [("b", "a"), ("a", "b", "a"), ("b", "b", "a", "a")]:
                self.assertEqual(layout_for(*stacks, wanted=wanted, reach=2)[0], expected[0])

    def test_random_stacks(self):
        chance = random.Random(102)
        kinds = []
        for _ in range(600):
            reach = chance.choice([2, 3, 5, 11, 16])
            names = letters(chance.choice([4, 8, 13]))
            bottom = tuple(chance.choice(names) for _ in range(chance.choice([0, 1, 4, 20])))
            stacks = [
                bottom + tuple(chance.sample(names, len(names))) + chance.choice([(), bottom[:3]])
                for _ in range(chance.randrange(1, 7))
            ]
            wanted = tuple(chance.choice(names) for _ in range(chance.randrange(13)))
            kinds.append(self.check(*stacks, wanted=wanted, reach=reach)[0])
        self.assertGreater(min(kinds.count("layout"), kinds.count("barred")), 60)

    def test_arguments_and_defaults(self):
        names = letters(12)
        self.assertEqual(layout_for(reach=2, *[names]), ("layout", ()))
        self.assertEqual(layout_for(names), layout_for(names, wanted=(), reach=16))
        self.assertEqual(layout_for(("x",) + names, ("y",) + names, wanted=names)[0], "layout")
        self.assertEqual(layout_for(("x",) + names, ("y",) + names, wanted=names, reach=11)[0], "barred")


class ErrorTest(LayoutTestCase):
    def test_stacks(self):
        self.assertEqual(self.raises(InvalidStack), 0)
        stack = ("a", "b")
        self.assertEqual(self.raises(InvalidStack, *[stack] * 7), 6)
        self.assertEqual(self.raises(InvalidStack, *[stack] * 9), 6)
        self.assertEqual(self.raises(InvalidStack, *[stack] * 6, None), 6)
        self.assertEqual(self.raises(InvalidStack, *[stack] * 5, None, None, stack), 5)
        self.assertEqual(self.raises(InvalidStack, letters(40), letters(41)), 1)
        self.assertEqual(self.raises(InvalidStack, ["a"], stack), 0)
        self.assertEqual(self.raises(InvalidStack, "a"), 0)

    def test_strange_stacks(self):
        for thing in STRANGE + [("a", "B"), ("a", None), (("a",),), ["a"], "a"]:
            if is_stack(thing):
                continue
            before = copy.deepcopy(thing)
            self.assertEqual(self.raises(InvalidStack, thing), 0)
            self.assertEqual(self.raises(InvalidStack, ("a",), thing, thing, wanted=None, reach=0), 1)
            self.assertEqual(self.raises(InvalidStack, *[()] * 5, thing, ("a",)), 5)
            self.assertEqual(self.raises(InvalidStack, *[()] * 6, thing), 6)
            self.assertEqual(thing, before)

    def test_wanted(self):
        names = letters(13)
        self.assertEqual(self.raises(InvalidWanted, names, wanted=names), names[12])
        self.assertEqual(self.raises(InvalidWanted, names, wanted=names[:1] * 12 + names[1:2]), names[1])
        self.assertEqual(self.raises(InvalidWanted, names, wanted=names + (None,)), names[12])
        self.assertEqual(self.raises(InvalidWanted, names, wanted=names[:12] + (None, "a")), None)
        self.assertEqual(self.raises(InvalidWanted, names, wanted=names[:11] + (7,) + names[:5]), 7)
        self.assertEqual(self.raises(InvalidWanted, names, wanted=list(names[:2])), list(names[:2]))
        self.assertEqual(self.raises(InvalidWanted, names, wanted="a"), "a")
        self.assertEqual(self.raises(InvalidWanted, names, wanted=(("a",), "B")), ("a",))

    def test_strange_wanted(self):
        for thing in STRANGE:
            before = copy.deepcopy(thing)
            if is_stack(thing):
                self.assertIsNone(self.raises(InvalidReach, ("a",), wanted=thing, reach=None))
            elif type(thing) is tuple:
                first = next(item for item in thing if not is_value(item))
                self.assertEqual(self.raises(InvalidWanted, ("a",), wanted=thing, reach=None), first)
            else:
                self.assertEqual(self.raises(InvalidWanted, ("a",), wanted=thing, reach=None), thing)
            self.assertEqual(self.raises(InvalidWanted, ("a",), wanted=("a", thing), reach=thing), thing)
            self.assertEqual(thing, before)

    def test_reaches(self):
        for thing in STRANGE + [0, 1, 41, True, 2.0, "2", [2]]:
            self.assertIs(is_reach(thing), False)
            found = self.raises(InvalidReach, ("a",), wanted=("z",), reach=thing)
            self.assertEqual((type(found), found), (type(thing), thing))
        for reach in (2, 40):
            self.check(("a",), wanted=("a",), reach=reach)

    def test_the_order_of_errors(self):
        self.assertEqual(self.raises(InvalidStack, None, wanted=None, reach=None), 0)
        self.assertEqual(self.raises(InvalidStack, wanted=None, reach=None), 0)
        self.assertEqual(self.raises(InvalidStack, *[()] * 7, wanted=None, reach=None), 6)
        self.assertEqual(self.raises(InvalidWanted, (), wanted=[], reach=None), [])
        self.assertEqual(self.raises(InvalidReach, (), wanted=("a",), reach=None), None)


if __name__ == "__main__":
    unittest.main()
