"""[42], [43], [44]: the checker of barred certificates."""

import copy
import itertools
import random
import unittest

from samples import STRANGE, letters, raised_by

from deepedge.errors import InvalidCertificate, InvalidReach, InvalidStack, InvalidWanted
from deepedge.layoutcheck import check_barred
from deepedge.layouts import layout_for
from deepedge.values import is_stack, is_value


def is_row(row, count):
    """Whether the thing has one of the forms of [43]."""
    if type(row) is not tuple or len(row) not in (2, 3) or type(row[0]) is not str:
        return False
    if row[0] == "many":
        return len(row) == 2 and type(row[1]) is tuple and all(map(is_value, row[1]))
    if len(row) == 2 or type(row[1]) is not int or row[1] not in range(count):
        return False
    if row[0] == "missing":
        return is_value(row[2])
    return row[0] == "edge" and type(row[2]) is tuple and all(map(is_value, row[2]))


def holds(row, stacks, floor, open_values, reach):
    """Whether the row is a barred row by the words of [43]."""
    if row[0] == "missing":
        return row[2] in open_values and row[2] not in stacks[row[1]][floor:]
    count = reach + (2 if row[0] == "many" else 1)
    chosen = row[-1]
    if len(chosen) != count or len(set(chosen)) != count or not set(chosen) <= open_values:
        return False
    return row[0] == "many" or len(stacks[row[1]]) <= floor or stacks[row[1]][floor] not in chosen


def problem_by_definition(stacks, wanted, value, reach):
    """The first reason of [44] that applies, or None."""
    if type(value) is not tuple or not all(is_row(row, len(stacks)) for row in value):
        return "shape"
    common = 0
    while all(len(stack) > common and stack[common] == stacks[0][common] for stack in stacks):
        common += 1
    if len(value) != common + 1:
        return "count"
    for floor, row in enumerate(value):
        if not holds(row, stacks, floor, set(wanted) - set(stacks[0][:floor]), reach):
            return row[0]
    return None


class CheckBarredTest(unittest.TestCase):
    def problem(self, stacks, wanted, value, reach=2):
        """The reason that the checker tells, or None. It is compared with the definition."""
        error = raised_by(check_barred, stacks, wanted, value, reach=reach)
        expected = problem_by_definition(stacks, wanted, value, reach)
        if error is None:
            self.assertIs(check_barred(stacks, wanted, value, reach=reach), True)
            self.assertIsNone(expected, (stacks, wanted, value, reach))
            return None
        self.assertIs(type(error), InvalidCertificate, (value, error))
        self.assertEqual(error.reason, expected, (stacks, wanted, value, reach))
        return error.reason

    def test_small(self):
        stacks = (("a", "b"), ("a", "c"))
        rows = (("missing", 1, "b"), ("missing", 0, "b"))
        self.assertEqual(self.problem(stacks, ("b",), rows), "missing")
        self.assertIs(check_barred(stacks, ("b",), (rows[0], rows[0]), reach=2), True)
        self.assertIs(check_barred(value=(rows[0],) * 2, wanted=("b",), stacks=stacks), True)
        self.assertIs(check_barred(((),), ("a",), (("missing", 0, "a"),)), True)

    def test_each_word(self):
        stacks = (("x", "a", "b", "c", "d"), ("y", "d", "c", "b", "a"))
        wanted = ("a", "b", "c", "d")
        for row in [
            ("many", ("a", "b", "c", "d")), ("many", ("d", "b", "c", "a")), ("edge", 0, ("a", "b", "c")),
            ("edge", 1, ("c", "d", "b")),
        ]:
            self.assertIsNone(self.problem(stacks, wanted, (row,)))
        for row in [
            ("many", ("a", "b", "c")), ("many", ("a", "b", "c", "c")), ("many", ("a", "b", "c", "x")), ("many", ()),
            ("many", ("a", "b", "c", "d", "a")), ("edge", 0, ("a", "b")), ("edge", 0, ("a", "b", "b")), ("edge", 1, ()),
            ("edge", 0, ("a", "b", "c", "d")), ("edge", 0, ("a", "b", "z")), ("missing", 0, "a"), ("missing", 1, "x"),
            ("missing", 0, "z"),
        ]:
            self.assertEqual(self.problem(stacks, wanted, (row,)), row[0])
        self.assertEqual(self.problem(stacks, wanted + ("x",), (("edge", 0, ("a", "b", "x")),)), "edge")
        self.assertIsNone(self.problem(stacks, wanted + ("x",), (("edge", 1, ("a", "b", "x")),)))
        self.assertIsNone(self.problem(stacks, wanted + ("x",), (("missing", 1, "x"),)))

    def test_a_stack_without_such_a_cell(self):
        stacks = (("p",), ("p", "a", "b", "c"))
        rows = (("missing", 0, "a"), ("edge", 0, ("a", "b", "c")))
        self.assertIsNone(self.problem(stacks, ("a", "b", "c"), rows))
        self.assertEqual(self.problem(stacks, ("a", "b", "c"), (rows[0], ("edge", 1, ("a", "b", "c")))), "edge")

    def test_values_below_the_floor_are_not_open(self):
        stacks = (("p", "a"), ("p", "b"))
        self.assertIsNone(self.problem(stacks, ("p", "a"), (("missing", 1, "a"),) * 2))
        self.assertEqual(self.problem(stacks, ("p", "a"), (("missing", 1, "a"), ("missing", 1, "p"))), "missing")
        names = letters(5)
        rows = (("many", names[:4]), ("many", names[1:]))
        self.assertEqual(self.problem((names, names[:1] + names[:0:-1]), names, rows), None)
        self.assertEqual(self.problem((names, names[:1] + names[:0:-1]), names, rows[:1] * 2), "many")

    def test_the_number_of_rows(self):
        stacks = (("a", "b"), ("a", "c"))
        row = ("missing", 1, "b")
        for count in range(5):
            self.assertEqual(self.problem(stacks, ("b",), (row,) * count), None if count == 2 else "count")
        self.assertEqual(self.problem((letters(40),) * 6, ("zz",), (("missing", 5, "zz"),) * 41), None)
        self.assertEqual(self.problem((letters(40),) * 6, ("zz",), (("missing", 5, "zz"),) * 40), "count")

    def test_shapes(self):
        stacks, wanted = (("a", "b"), ("b", "a")), ("c",)
        right = ("missing", 0, "c")
        self.assertIsNone(self.problem(stacks, wanted, (right,)))
        for value in [
            [right], right, None, (list(right),), (None,), ((),), (("missing",),), (("missing", 0),), (right + (1,),),
            (("missing", True, "c"),), (("missing", False, "c"),), (("missing", -1, "c"),), (("missing", 2, "c"),),
            (("missing", "0", "c"),), (("missing", 0, ("c",)),), (("missing", 0, "C"),), (("missing", None, "c"),),
            (("edge", 0),), (("edge", 0, ["c"]),), (("edge", True, ("c",)),), (("edge", 2, ("c",)),), (("edge", ("c",)),),
            (("edge", 0, "c"),), (("edge", 0, ("c", 1)),), (("edge", 0, (("c",),)),), (("many",),), (("many", ["c"]),),
            (("many", 0, ("c",)),), (("many", ("c",), 0),), (("many", ("c", None)),), (("many", "c"),), (("many", {}),),
            (("Missing", 0, "c"),), (("layout", 0, "c"),), ((0, 0, "c"),), ((["missing"], 0, "c"),), ((None, 0, "c"),),
            (("missing", 10 ** 99, "c"),), (right, right, ("many", 0)), {}, {"missing": right}, "missing", ((("missing",), 0, "c"),),
        ]:
            self.assertEqual(self.problem(stacks, wanted, value), "shape", value)

    def test_strange_values(self):
        stacks, wanted = (("a", "b"), ("b", "a")), ("c", "d", "e", "f")
        for thing in STRANGE:
            before = copy.deepcopy(thing)
            for value in (
                thing, (thing,), (("missing", 0, thing),), (("missing", thing, "c"),), ((thing, 0, "c"),), (("many", thing),),
                (("edge", 0, thing),), (("edge", thing, ("c", "d", "e")),), (("many", ("c", "d", "e", thing)),),
                (("missing", 0, "c"), thing), (("edge", 0, ("c", "d", thing)),), ((thing, ("c", "d", "e", "f")),),
            ):
                self.problem(stacks, wanted, value)
            self.assertEqual(thing, before)

    def test_the_first_reason(self):
        stacks = (("a", "b"), ("a", "c"))
        wrong = ("missing", 0, "b"), ("edge", 0, ("b",)), ("many", ("b",))
        for one, other in itertools.product(wrong, repeat=2):
            self.assertEqual(self.problem(stacks, ("b",), (one, other)), one[0])
            self.assertEqual(self.problem(stacks, ("b",), (("missing", 1, "b"), other)), other[0])
            self.assertEqual(self.problem(stacks, ("b",), (one, other, one)), "count")
            self.assertEqual(self.problem(stacks, ("b",), (one, other, [])), "shape")

    def test_changed_certificates(self):
        chance = random.Random(103)
        found = []
        for _ in range(400):
            reach = chance.choice([2, 2, 3])
            bottom = tuple(chance.choice("abcdef") for _ in range(chance.randrange(4)))
            stacks = tuple(bottom + tuple(chance.sample("abcdef", 6)) for _ in range(chance.randrange(1, 4)))
            stacks = tuple(stack[:chance.choice([4, 9, 9, 9])] for stack in stacks)
            wanted = tuple(chance.sample("abcdef", chance.randrange(1, 7)))
            kind, rows = layout_for(*stacks, wanted=wanted, reach=reach)
            if kind == "layout":
                continue
            self.assertIsNone(self.problem(stacks, wanted, rows, reach))
            at = chance.randrange(len(rows))
            other = chance.randrange(len(rows))
            swapped = list(rows)
            swapped[at], swapped[other] = swapped[other], swapped[at]
            free = chance.choice(["missing", "edge", "many"]), chance.randrange(3), tuple(chance.sample("abcdef", reach + 1))
            some = chance.choice("abcdef")
            for value in [
                tuple(swapped), rows[::-1], rows[:at] + rows[at + 1:], rows[:at] + (rows[at],) + rows[at:], list(rows),
                rows[:at] + (list(rows[at]),) + rows[at + 1:], rows[:at] + (free,) + rows[at + 1:],
                rows[:at] + (("missing", 0, some),) + rows[at + 1:], rows[:at] + (("many", free[2] + (some,)),) + rows[at + 1:],
                rows[:at] + (("edge", 0, free[2]),) + rows[at + 1:], rows[:at] + (rows[at][:-1],) + rows[at + 1:],
                rows[:at] + (rows[at][:1] + (True,) + rows[at][2:],) + rows[at + 1:], rows * 2, (),
                rows[:at] + (rows[at][:-1] + (rows[at][-1][::-1],),) + rows[at + 1:],
            ]:
                found.append(self.problem(stacks, wanted, value, reach))
        for reason in ("shape", "count", "missing", "edge", "many", None):
            self.assertGreater(found.count(reason), 20, reason)


class ErrorTest(unittest.TestCase):
    def error(self, *arguments, **settings):
        return raised_by(check_barred, *arguments, **settings)

    def test_the_errors_of_layout_for(self):
        names = letters(13)
        some = ("a", "b")
        cases = [
            ((), (), 16), ((some,) * 7, (), 16), ((some,) * 6 + (None,), (), 16), ((some, None), None, None),
            ((some,) * 5 + (["a"],), (), 16), ((some,), names, 16), ((some,), ["a"], 16), ((some,), (None,), 16),
            ((some,), None, None), ((some,), ("a",), 1), ((some,), ("a",), 41), ((some,), (), True), ((some,), (), None),
            ((names * 4,), None, None), (((), ("A",)), None, None), ((some,), names[:12] + (7,), 0), ((), None, None),
        ]
        kinds = set()
        for stacks, wanted, reach in cases:
            expected = raised_by(layout_for, *stacks, wanted=wanted, reach=reach)
            for value in (None, (), (("missing", 0, "z"),)):
                error = self.error(stacks, wanted, value, reach=reach)
                self.assertIs(type(error), type(expected))
                self.assertEqual(vars(error), vars(expected))
            kinds.add(type(expected))
        self.assertEqual(kinds, {InvalidStack, InvalidWanted, InvalidReach})

    def test_strange_arguments(self):
        for thing in [thing for thing in STRANGE if not is_stack(thing)]:
            before = copy.deepcopy(thing)
            self.assertEqual(self.error((thing,), thing, thing, reach=thing).index, 0)
            self.assertEqual(self.error((("a",), thing), thing, thing, reach=thing).index, 1)
            self.assertIs(type(self.error((("a",),), thing, thing, reach=thing)), InvalidWanted)
            self.assertEqual(self.error((("a",),), ("a", thing), thing, reach=thing).value, thing)
            found = self.error((("a",),), ("a",), thing, reach=thing)
            self.assertEqual((type(found), type(found.value), found.value), (InvalidReach, type(thing), thing))
            self.assertEqual(thing, before)

    def test_names_and_defaults(self):
        names = letters(12)
        stacks = (("x",) + names, ("y",) + names)
        rows = (("edge", 0, names),)
        self.assertEqual(self.error(stacks, names, rows).reason, "edge")
        self.assertIs(check_barred(reach=11, value=rows, wanted=names, stacks=stacks), True)


if __name__ == "__main__":
    unittest.main()
