"""[23], [25]: the checker of blocked certificates."""

import copy
import itertools
import unittest

from samples import STRANGE, all_stacks, letters, random_pairs

from deepedge import blocked
from deepedge.blocked import check_blocked
from deepedge.errors import InvalidCertificate
from deepedge.judge import decide


def is_integer(thing):
    return type(thing) is int


def is_choice(thing, cells, count):
    """Whether the thing is an ascending tuple of so many distinct values of the cells."""
    return (
        type(thing) is tuple
        and all(type(item) is str and item in cells for item in thing)
        and list(thing) == sorted(set(thing))
        and len(thing) == count
    )


def problem_by_definition(stack, target, value, reach):
    """The first problem of the value, by the words of [23] and [25], or None."""
    if type(value) is not tuple or len(value) != 4:
        return "shape"
    floor, witnesses, reason, detail = value
    if not is_integer(floor) or type(witnesses) is not tuple or reason not in ["ground", "missing", "edge"]:
        return "shape"
    if floor < 0 or floor >= len(target):
        return "floor"
    above = target[floor:]
    if floor == 0 and witnesses != () or floor > 0 and not is_choice(witnesses, above, reach + 1):
        return "witnesses"
    if reason == "ground":
        right = is_integer(detail) and detail in range(floor)
        right = right and (len(stack) <= detail or stack[detail] != target[detail])
    elif reason == "missing":
        right = type(detail) is str and detail in above and detail not in stack[floor:]
    else:
        right = floor < len(stack) and stack[floor] != target[floor]
        right = right and is_choice(detail, above, reach + 1) and stack[floor] not in detail
    return None if right else reason


class CheckBlockedTest(unittest.TestCase):
    def problem(self, stack, target, value, reach=2):
        """The problem that the checker names, or None if it returns True."""
        try:
            self.assertIs(check_blocked(stack, target, value, reach=reach), True)
        except InvalidCertificate as error:
            return error.reason
        return None

    def test_right_certificates(self):
        stack, target = ("a", "b", "c", "d"), ("b", "c", "d")
        self.assertIs(check_blocked(stack, target, (0, (), "edge", ("b", "c", "d")), reach=2), True)
        self.assertIs(check_blocked(stack=("a",), target=("b",), value=(0, (), "missing", "b"), reach=3), True)
        self.assertIs(check_blocked(("a",), ("b",), (0, (), "missing", "b")), True)

    def test_certificates_above_a_floor_of_0(self):
        target = ("p", "q", "a", "b", "c")
        seen = ("a", "b", "c")
        self.assertIsNone(self.problem(("p", "x", "a"), target, (2, seen, "ground", 1)))
        self.assertIsNone(self.problem(("p",), target, (2, seen, "ground", 1)))
        self.assertIsNone(self.problem((), target, (1, ("b", "c", "q"), "ground", 0)))
        self.assertIsNone(self.problem(("x", "q"), target, (1, ("a", "b", "q"), "missing", "a")))
        self.assertIsNone(self.problem(("p", "q", "x", "a", "b", "c"), target, (2, seen, "edge", seen)))
        self.assertIsNone(self.problem(("x",) + target, target, (1, ("a", "c", "q"), "edge", ("a", "b", "c"))))
        self.assertEqual(self.problem(target, target, (2, seen, "ground", 1)), "ground")
        self.assertEqual(self.problem((), target, (2, seen, "ground", 2)), "ground")
        self.assertEqual(self.problem((), target, (2, seen, "ground", -1)), "ground")
        self.assertEqual(self.problem((), target, (0, (), "ground", 0)), "ground")
        self.assertEqual(self.problem((), target, (3, seen, "ground", 0)), "witnesses")
        self.assertEqual(self.problem((), target, (2, ("a", "b", "q"), "ground", 0)), "witnesses")

    def test_shapes(self):
        stack, target = (), ("a",)
        for value in [
            (), (0, (), "missing"), (0, (), "missing", "a", 1), [0, (), "missing", "a"], (0, [], "missing", "a"),
            (False, (), "missing", "a"), (None, (), "missing", "a"), ("0", (), "missing", "a"), ((0,), (), "missing", "a"),
            (0, None, "missing", "a"), (0, "", "missing", "a"), (0, {}, "missing", "a"), (0, (), "Missing", "a"),
            (0, (), "floor", "a"), (0, (), ["missing"], "a"), (0, (), None, "a"), (0, (), {}, "a"), (0, (), "", "a"),
            (0, (), ("missing",), "a"), "missing",
        ]:
            self.assertEqual(self.problem(stack, target, value), "shape", value)
        for thing in STRANGE:
            before = copy.deepcopy(thing)
            self.assertEqual(self.problem(stack, target, thing), "shape")
            if type(thing) is not int:
                self.assertEqual(self.problem(stack, target, (thing, (), "missing", "a")), "shape")
            if type(thing) is not tuple:
                self.assertEqual(self.problem(stack, target, (0, thing, "missing", "a")), "shape")
            self.assertEqual(self.problem(stack, target, (0, (), thing, "a")), "shape")
            self.assertEqual(thing, before)

    def test_floors(self):
        for floor in (-1, 1, 2, 10 ** 99, -(10 ** 99)):
            self.assertEqual(self.problem((), ("a",), (floor, (), "missing", "a")), "floor")
        self.assertEqual(self.problem(("a",), (), (0, (), "missing", "a")), "floor")

    def test_witnesses(self):
        target = ("p", "d", "a", "b", "c")
        for witnesses in [
            (), ("a",), ("a", "b"), ("a", "b", "c", "d"), ("b", "a", "c"), ("a", "a", "b"), ("a", "b", "p"),
            ("a", "b", "x"), ("a", "b", 1), ("a", "b", None), ("a", "b", ["c"]), (("a",), "b", "c"), (1, 2, 3),
            (True, "b", "c"), ("a", "b", {}),
        ]:
            self.assertEqual(self.problem((), target, (1, witnesses, "ground", 0)), "witnesses", witnesses)
            self.assertEqual(self.problem((), target, (0, witnesses, "missing", "a")) == "witnesses", witnesses != ())
        for witnesses in [("a", "b", "c"), ("a", "b", "d"), ("b", "c", "d")]:
            self.assertIsNone(self.problem((), target, (1, witnesses, "ground", 0)))
        for thing in STRANGE:
            if type(thing) is tuple:
                self.assertEqual(self.problem((), target, (1, thing, "ground", 0)), "witnesses")
            self.assertEqual(self.problem((), target, (1, ("a", "b", thing), "ground", 0)), "witnesses")

    def test_strange_details(self):
        target = ("p", "a", "b", "c")
        seen = ("a", "b", "c")
        stack = ("q", "x")
        self.assertIsNone(self.problem(stack, target, (1, seen, "ground", 0)))
        self.assertIsNone(self.problem(stack, target, (1, seen, "missing", "c")))
        self.assertIsNone(self.problem(stack, target, (1, seen, "edge", seen)))
        for thing in STRANGE + [0.0, list(seen), "x", "p", (), ("a", "b"), ("a", "b", "x"), ("b", "a", "c"), ("a",) * 3]:
            for reason in ("ground", "missing", "edge"):
                self.assertEqual(self.problem(stack, target, (1, seen, reason, thing)), reason, thing)
            self.assertEqual(self.problem(stack, target, (1, seen, "edge", ("a", "b", thing))), "edge")

    def test_edges(self):
        target = ("d", "a", "b", "c")
        self.assertIsNone(self.problem(("a", "x"), target, (0, (), "edge", ("b", "c", "d"))))
        self.assertEqual(self.problem(("a", "x"), target, (0, (), "edge", ("a", "b", "c"))), "edge")
        self.assertEqual(self.problem(("d", "x"), target, (0, (), "edge", ("a", "b", "c"))), "edge")
        self.assertEqual(self.problem((), target, (0, (), "edge", ("a", "b", "c"))), "edge")
        self.assertEqual(self.problem(("x",), target, (0, (), "edge", target)), "edge")
        self.assertEqual(self.problem(("x",), target, (0, (), "edge", ("a", "b", "c")), reach=3), "edge")

    def test_missing_looks_above_the_floor_alone(self):
        target = ("c", "a", "b", "c")
        self.assertIsNone(self.problem(("c", "a", "b"), target, (1, ("a", "b", "c"), "missing", "c")))
        self.assertEqual(self.problem(("c", "a", "b"), target, (0, (), "missing", "c")), "missing")

    def test_small_pairs_against_the_definition(self):
        stacks = list(all_stacks("ab", 3)) + [tuple(word) for word in ("cab", "abc", "abcc", "cabc", "bacb", "abca")]
        choices = [(), ("a", "b", "c"), ("a", "b"), ("c", "b", "a")]
        details = [0, 1, -1, True, None, "a", "b", "c", "d", *choices]
        names = ("ground", "missing", "edge")
        values = list(itertools.product((-1, 0, 1, 2, True), choices, names, details))
        found = set()
        for stack in stacks[::2]:
            for target in stacks[5:]:
                for value in values:
                    problem = self.problem(stack, target, value)
                    self.assertEqual(problem, problem_by_definition(stack, target, value, 2), (stack, target, value))
                    found.add(problem)
        self.assertEqual(found, {None, "shape", "floor", "witnesses", "ground", "missing", "edge"})

    def test_no_certificate_of_a_pair_that_is_reached(self):
        for stack, target, reach in random_pairs(41, 600):
            word, found = decide(stack, target, reach=reach)
            if word == "blocked":
                self.assertIsNone(self.problem(stack, target, found, reach))
                continue
            above = sorted(set(target[found:]))
            for floor in range(min(found + 2, len(target))):
                witnesses = tuple(sorted(set(target[floor:]))[:reach + 1]) if floor else ()
                for reason, detail in [("ground", 0), *[("missing", v) for v in above], ("edge", tuple(above[:reach + 1]))]:
                    self.assertIsNotNone(self.problem(stack, target, (floor, witnesses, reason, detail), reach))

    def test_high_stacks(self):
        stack = letters(41) * 3
        value = (0, (), "edge", tuple(sorted(letters(41)[1:])))
        self.assertIsNone(self.problem(stack, stack[1:], value, reach=39))
        self.assertEqual(self.problem(stack[1:], stack[2:], value, reach=39), "edge")

    def test_nothing_is_searched(self):
        # The checker must not lean on what it checks.
        self.assertFalse({"decide", "reaches", "run", "build", "floors", "depth_of"} & set(vars(blocked)))


if __name__ == "__main__":
    unittest.main()
