"""[23], [25], [62]: check_with."""

import copy
import itertools
import unittest

from samples import STRANGE, all_stacks, letters, random_pairs
from test_blocked import is_choice, is_integer, problem_by_definition
from test_literals import random_cases, reached_with_fact

from deepedge import literalcheck
from deepedge.errors import InvalidCertificate
from deepedge.literalcheck import check_with
from deepedge.literals import decide_with


def problem_with(stack, target, value, constants, reach):
    """The first problem of the value, by the words of [25] and [62], or None."""
    problem = problem_by_definition(stack, target, value, reach)
    if problem in ("shape", "floor", "witnesses"):
        return problem
    _, witnesses, reason, detail = value
    if set(witnesses) & set(constants):
        return "witnesses"
    if problem is None and reason == "missing" and detail in constants:
        return reason
    if problem is None and reason == "edge" and set(detail) & set(constants):
        return reason
    return problem


class CheckWithTest(unittest.TestCase):
    def problem(self, stack, target, value, constants, reach=2):
        """The problem that the checker names, or None if it returns True."""
        try:
            self.assertIs(check_with(stack, target, value, constants=constants, reach=reach), True)
        except InvalidCertificate as error:
            return error.reason
        return None

    def test_right_certificates(self):
        self.assertIs(check_with(("a",), ("b", "k"), (0, (), "missing", "b"), constants=("k",)), True)
        self.assertIs(check_with(("a",), ("b", "k"), (0, (), "missing", "k")), True)
        self.assertIs(check_with(reach=3, constants=(), value=(0, (), "missing", "b"), target=("b",), stack=("a",)), True)
        edge = (0, (), "edge", ("b", "c", "d"))
        self.assertIsNone(self.problem(("a", "b", "c", "d"), ("b", "c", "d"), edge, ("a", "x")))
        # The cell of the stack and an index are not values that must be no constants.
        self.assertIsNone(self.problem(("p",), ("q", "a", "b", "c"), (1, ("a", "b", "c"), "ground", 0), ("p", "q")))

    def test_constants(self):
        target = ("k", "p", "a", "b", "c", "j")
        self.assertEqual(self.problem(("a",), target, (0, (), "missing", "k"), ("k", "j")), "missing")
        self.assertEqual(self.problem(("a",), target, (1, ("a", "b", "j"), "missing", "b"), ("k", "j")), "witnesses")
        self.assertEqual(self.problem(("a",), target, (1, ("a", "b", "k"), "missing", "b"), ("k", "j")), "witnesses")
        self.assertEqual(self.problem(("x",), target, (0, (), "edge", ("a", "b", "j")), ("k", "j")), "edge")
        self.assertIsNone(self.problem(("x",), target, (0, (), "edge", ("a", "b", "j")), ("k",)))
        self.assertIsNone(self.problem(("x",), target, (0, (), "edge", ("a", "b", "c")), ("k", "j")))
        self.assertIsNone(self.problem(("x",), target, (1, ("a", "b", "c"), "ground", 0), ("k", "j")))
        self.assertIsNone(self.problem(("x",), target, (1, ("a", "b", "p"), "missing", "c"), ("k", "j")))
        self.assertEqual(self.problem(("x",), target, (1, ("a", "b", "p"), "missing", "j"), ("k", "j")), "missing")

    def test_order_of_problems(self):
        target = ("k", "a", "b", "c")
        self.assertEqual(self.problem((), target, (1, ["k"], "missing", "k"), ("k",)), "shape")
        self.assertEqual(self.problem((), target, (4, ("k",), "missing", "k"), ("k",)), "floor")
        self.assertEqual(self.problem((), target, (1, ("a", "b", "k"), "missing", "k"), ("k",)), "witnesses")
        self.assertEqual(self.problem((), target, (0, (), "missing", "k"), ("k",)), "missing")

    def test_strange_values(self):
        target = ("p", "a", "b", "c", "k")
        seen = ("a", "b", "c")
        for thing in STRANGE + [0.0, list(seen), "k", "x", (), ("a", "b", "k"), ("b", "a", "c"), ("a", "b")]:
            before = copy.deepcopy(thing)
            self.assertEqual(self.problem((), target, thing, ("k",)), "shape")
            for reason in ("ground", "missing", "edge"):
                self.assertEqual(self.problem(("q", "x"), target, (1, seen, reason, thing), ("k",)), reason)
                self.assertEqual(self.problem(("q", "x"), target, (1, seen, thing, "a"), ("k",)), "shape")
                self.assertEqual(
                    self.problem(("q", "x"), target, (1, thing, reason, "a"), ("k",)),
                    "witnesses" if type(thing) is tuple else "shape",
                )
                self.assertEqual(
                    self.problem(("q", "x"), target, (thing, seen, reason, "a"), ("k",)), "floor" if is_integer(thing) else "shape"
                )
                self.assertEqual(self.problem(("q", "x"), target, (1, ("a", "b", thing), reason, "a"), ("k",)), "witnesses")
            self.assertEqual(thing, before)

    def test_changed_certificates(self):
        stack, target, constants = ("p", "x", "y"), ("q", "k", "a", "b", "c"), ("k", "j")
        for right in [(1, ("a", "b", "c"), "ground", 0), (1, ("a", "b", "c"), "missing", "b"), (1, ("a", "b", "c"), "edge", tuple("abc"))]:
            self.assertIsNone(self.problem(stack, target, right, constants))
            floor, seen, reason, detail = right
            for value, problem in [
                (list(right), "shape"), (right[:3], "shape"), (right + (0,), "shape"), ((True, seen, reason, detail), "shape"),
                ((floor, list(seen), reason, detail), "shape"), ((floor, seen[::-1], reason, detail), "witnesses"),
                ((floor, seen[:2], reason, detail), "witnesses"), ((floor, seen + ("q",), reason, detail), "witnesses"),
                ((floor, ("a", "b", "k"), reason, detail), "witnesses"), ((floor, (), reason, detail), "witnesses"),
                ((0, seen, reason, detail), "witnesses"), ((5, seen, reason, detail), "floor"), ((-1, seen, reason, detail), "floor"),
                ((floor, seen, reason, [detail]), reason), ((floor, seen, reason, "k"), reason), ((floor, seen, reason, True), reason),
                ((floor, seen, reason, False), reason), ((floor, seen, reason, ("a", "b", "k")), reason),
            ]:
                self.assertEqual(self.problem(stack, target, value, constants), problem, value)

    def test_small_pairs_against_the_definition(self):
        stacks = list(all_stacks("ab", 2)) + [tuple(word) for word in ("cab", "abc", "abcc", "cabc", "bacb", "abca", "dabc")]
        choices = [(), ("a", "b", "c"), ("a", "b", "d"), ("b", "c", "d"), ("c", "b", "a")]
        details = [0, 1, -1, True, None, "a", "c", "d", *choices]
        values = list(itertools.product((-1, 0, 1, 2, True), choices, ("ground", "missing", "edge"), details))
        found = set()
        for constants in [("a",), ("d", "c"), ("e",)]:
            for stack in stacks[::2]:
                for target in stacks[5:]:
                    for value in values:
                        problem = self.problem(stack, target, value, constants)
                        expected = problem_with(stack, target, value, constants, 2)
                        self.assertEqual(problem, expected, (stack, target, value, constants))
                        found.add(problem)
        self.assertEqual(found, {None, "shape", "floor", "witnesses", "ground", "missing", "edge"})

    def test_certificates_of_decide_with(self):
        for stack, target, constants, reach in random_cases(311, 600):
            word, found = decide_with(stack, target, constants=constants, reach=reach)
            if word == "blocked":
                self.assertIsNone(self.problem(stack, target, found, constants, reach))
                self.assertTrue(is_choice(found[1], target, reach + 1) or found[1] == ())
                continue
            # No certificate of a pair that is reached.
            above = sorted(set(target[found:]))
            for floor in range(min(found + 2, len(target))):
                cells = sorted(set(target[floor:]) - set(constants))
                witnesses = tuple(cells[:reach + 1]) if floor else ()
                for reason, detail in [("ground", 0), *[("missing", v) for v in above], ("edge", tuple(cells[:reach + 1]))]:
                    self.assertIsNotNone(self.problem(stack, target, (floor, witnesses, reason, detail), constants, reach))

    def test_without_constants(self):
        for stack, target, reach in random_pairs(312, 300):
            word, found = decide_with(stack, target, reach=reach)
            if word == "blocked":
                self.assertIs(check_with(stack, target, found, reach=reach), True)
                self.assertIsNone(problem_by_definition(stack, target, found, reach))
            self.assertEqual(word == "reached", reached_with_fact(stack, target, (), reach))

    def test_high_stacks(self):
        stack = letters(41) * 3
        value = (0, (), "edge", tuple(sorted(letters(41)[1:])))
        self.assertIsNone(self.problem(stack, stack[1:] + ("k",), value, ("k",), reach=39))

    def test_nothing_is_searched(self):
        self.assertFalse({"decide_with", "reaches_with", "run_with", "build_with"} & set(vars(literalcheck)))


if __name__ == "__main__":
    unittest.main()
