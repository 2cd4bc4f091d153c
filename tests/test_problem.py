"""[13], [51], [52], [55]: problems."""

import copy
import itertools
import random
import unittest

from samples import STRANGE, depth_by_definition, letters, raised_by, random_pairs, reached_by_fact

from deepedge.blocked import check_blocked
from deepedge.building import build
from deepedge.errors import Blocked, InvalidReach, InvalidStack, NoName, ParseError
from deepedge.instructions import is_shuffle
from deepedge.judge import decide
from deepedge.machine import run
from deepedge.problem import Problem

START, GOAL = ("a", "b", "c", "d"), ("b", "c", "d")


def state(problem):
    return (problem.start, problem.goal, problem.reach, problem.answer, problem.least, str(problem), repr(problem))


class ProblemTestCase(unittest.TestCase):
    def check(self, problem, start, goal, reach):
        """Check that all that the problem tells belongs to this state."""
        self.assertEqual((problem.start, problem.goal, problem.reach), (start, goal, reach))
        reached = reached_by_fact(start, goal, reach)
        self.assertEqual(problem.answer, decide(start, goal, reach=reach))
        self.assertIs(problem.reachable, reached)
        self.assertEqual(problem.goal_depth, depth_by_definition(goal, reach))
        enough = [k for k in range(2, 41) if reached_by_fact(start, goal, k)]
        self.assertEqual(problem.least, enough[0] if enough else None)
        if reached:
            deeds = problem.shuffle()
            self.assertIs(is_shuffle(deeds, reach=reach), True)
            self.assertEqual(run(start, deeds, reach=reach), goal)
            self.assertIsNone(problem.evidence())
        else:
            error = raised_by(problem.shuffle)
            self.assertEqual((type(error), error.certificate), (Blocked, problem.answer[1]))
            self.assertEqual(problem.evidence(), problem.answer[1])
            self.assertIs(check_blocked(start, goal, problem.evidence(), reach=reach), True)
        texts = [f"reach {reach}", "start " + (" ".join(start) or "-"), "goal " + (" ".join(goal) or "-")]
        self.assertEqual(str(problem), "\n".join(texts))
        self.assertEqual(repr(problem), f"Problem(reach {reach})")
        self.assertEqual(Problem.read(str(problem)), problem)

    def raises(self, function, *arguments, **settings):
        """The class and the attributes of the error that the call raises."""
        before = copy.deepcopy((arguments, settings))
        error = raised_by(function, *arguments, **settings)
        self.assertIsNotNone(error, before)
        self.assertEqual((arguments, settings), before)
        return (type(error), *vars(error).values())

    def refuses(self, problem, expected, function, *arguments, **settings):
        """Check that the call raises the error and changes nothing of the problem."""
        before = state(problem)
        self.assertEqual(self.raises(function, *arguments, **settings), expected)
        self.assertEqual(state(problem), before)


class ConstructorTest(ProblemTestCase):
    def test_defaults(self):
        self.check(Problem(), (), (), 16)
        self.check(Problem(START), START, (), 16)
        self.check(Problem((), GOAL), (), GOAL, 16)

    def test_by_name(self):
        call = {"start": START, "goal": GOAL, "reach": 2}
        for order in itertools.permutations(call):
            self.check(Problem(**{name: call[name] for name in order}), START, GOAL, 2)

    def test_limits(self):
        self.check(Problem(letters(40), letters(40), reach=40), letters(40), letters(40), 40)
        high = letters(41)
        self.assertEqual(self.raises(Problem, high), (InvalidStack, 40))
        self.assertEqual(self.raises(Problem, (), high), (InvalidStack, 40))
        for reach in (0, 1, 41, -2):
            self.assertEqual(self.raises(Problem, reach=reach), (InvalidReach, reach))

    def test_strange_arguments(self):
        for thing in STRANGE:
            self.assertEqual(self.raises(Problem, ("a", thing)), (InvalidStack, 1))
            self.assertEqual(self.raises(Problem, (), ("a", "b", thing)), (InvalidStack, 2))
            self.assertEqual(self.raises(Problem, reach=thing), (InvalidReach, thing))
            if not isinstance(thing, tuple):
                self.assertEqual(self.raises(Problem, thing), (InvalidStack, None))
                self.assertEqual(self.raises(Problem, (), thing), (InvalidStack, None))
        self.assertEqual(self.raises(Problem, ("a", "B", 3)), (InvalidStack, 1))
        self.assertEqual(self.raises(Problem, ["a"]), (InvalidStack, None))

    def test_order_of_errors(self):
        self.assertEqual(self.raises(Problem, ("a", 1), [], reach=0), (InvalidStack, 1))
        self.assertEqual(self.raises(Problem, (), [], reach=0), (InvalidStack, None))
        self.assertEqual(self.raises(Problem, (), (), reach=0), (InvalidReach, 0))


class StateTest(ProblemTestCase):
    def test_example(self):
        problem = Problem(START, GOAL, reach=2)
        wider = Problem(problem.start, problem.goal, reach=3)
        told = [problem.reachable, problem.least, wider.answer, str(wider.swapped())]
        self.assertEqual(told, [False, 3, ("reached", 0), "reach 3\nstart b c d\ngoal a b c d"])

    def test_random_problems(self):
        chance = random.Random(331)
        never = 0
        for start, goal, reach in random_pairs(332, 400):
            problem = Problem(start, goal, reach=reach)
            self.check(problem, start, goal, reach)
            never += problem.least is None
            self.check(problem.swapped(), goal, start, reach)
            other = chance.choice([2, 3, 16, 40])
            problem.reach = other
            self.check(problem, start, goal, other)
            problem.goal = start
            self.check(problem, start, start, other)
            problem.change(start=goal, reach=reach)
            self.check(problem, goal, start, reach)
        self.assertGreater(never, 20)

    def test_edges(self):
        names = letters(40)
        for start, goal in [((), ()), (START, START), (names, names), (names, names[::-1]), (START, ("x",)), (names, names[1:])]:
            for reach in (2, 16, 40):
                self.check(Problem(start, goal, reach=reach), start, goal, reach)
        self.assertIsNone(Problem(names, ("x",), reach=40).least)
        self.assertEqual(Problem(names, names[1:]).least, 39)

    def test_shuffle_of_build(self):
        self.assertEqual(Problem(START, ("d", "a", "a")).shuffle(), build(START, ("d", "a", "a")))


class AssignmentTest(ProblemTestCase):
    def test_assigned(self):
        problem = Problem()
        problem.start = START
        self.check(problem, START, (), 16)
        problem.goal = GOAL
        self.check(problem, START, GOAL, 16)
        problem.reach = 2
        self.check(problem, START, GOAL, 2)
        problem.reach = 40
        problem.start, problem.goal = (), ()
        self.check(problem, (), (), 40)

    def test_refused(self):
        problem = Problem(START, GOAL, reach=2)
        for thing in STRANGE:
            self.refuses(problem, (InvalidReach, thing), setattr, problem, "reach", thing)
            for name in ("start", "goal"):
                self.refuses(problem, (InvalidStack, 1), setattr, problem, name, ("a", thing))
                if not isinstance(thing, tuple):
                    self.refuses(problem, (InvalidStack, None), setattr, problem, name, thing)
        for name in ("start", "goal"):
            self.refuses(problem, (InvalidStack, 40), setattr, problem, name, letters(41))

    def test_what_cannot_be_assigned(self):
        problem = Problem(START, GOAL, reach=2)
        for name in ("answer", "reachable", "goal_depth", "least"):
            with self.assertRaises(AttributeError):
                setattr(problem, name, getattr(problem, name))
        self.check(problem, START, GOAL, 2)


class ChangeTest(ProblemTestCase):
    def test_assigns(self):
        new = {"start": ("a",), "goal": ("a", "a"), "reach": 5}
        for count in range(4):
            for names in itertools.permutations(new, count):
                problem = Problem(START, GOAL, reach=2)
                self.assertIsNone(problem.change(**{name: new[name] for name in names}))
                expected = {"start": START, "goal": GOAL, "reach": 2} | {name: new[name] for name in names}
                self.check(problem, expected["start"], expected["goal"], expected["reach"])

    def test_names(self):
        problem = Problem(START, GOAL, reach=2)
        for name in ("answer", "reachable", "goal_depth", "least", "x", "Reach", "_start", "change", "stack", "most"):
            self.refuses(problem, (NoName, name), problem.change, **{"reach": 0, name: 1, "y": 1, "start": 3})
        self.refuses(problem, (NoName, "b"), problem.change, start=None, b=1, goal=None, a=2, reach=0)

    def test_all_or_none(self):
        problem = Problem(START, GOAL, reach=2)
        self.refuses(problem, (InvalidStack, 0), problem.change, reach=0, goal=[], start=(3,))
        self.refuses(problem, (InvalidStack, None), problem.change, reach=0, goal=[], start=())
        self.refuses(problem, (InvalidReach, 0), problem.change, reach=0, goal=(), start=())
        self.refuses(problem, (InvalidStack, 1), problem.change, goal=("a", 3), start=(), reach=3)
        for thing in STRANGE:
            self.refuses(problem, (InvalidReach, thing), problem.change, start=(), reach=thing, goal=())


class TwoProblemsTest(ProblemTestCase):
    def test_apart(self):
        one, other = Problem(START, GOAL, reach=2), Problem(START, GOAL, reach=2)
        swapped = one.swapped()
        one.change(start=("x",), reach=3)
        self.check(other, START, GOAL, 2)
        self.check(swapped, GOAL, START, 2)
        swapped.goal = ()
        self.check(one, ("x",), GOAL, 3)

    def test_equality(self):
        problem = Problem(START, GOAL, reach=2)
        self.assertTrue(problem == Problem(START, GOAL, reach=2))
        self.assertFalse(problem != Problem(START, GOAL, reach=2))
        for other in [
            Problem(GOAL, GOAL, reach=2), Problem(START, START, reach=2), Problem(START, GOAL, reach=3), problem.swapped(),
            Problem(),
        ]:
            self.assertFalse(problem == other)
            self.assertTrue(problem != other)
        self.assertEqual(problem.swapped().swapped(), problem)
        # The bounds between the stacks matter.
        self.assertNotEqual(Problem(("a",), ("b", "c")), Problem(("a", "b"), ("c",)))

    def test_nothing_else_is_equal(self):
        problem = Problem(START, GOAL, reach=2)
        for thing in STRANGE + [str(problem), (START, GOAL, 2), [START, GOAL, 2]]:
            self.assertFalse(problem == thing)
            self.assertFalse(thing == problem)


class ReadTest(ProblemTestCase):
    WRONG = ["", "A", "a1", "abcdefghi", "-3", "+3", "03", "1", "41", "3.", "a-", "--", "Reach", "~", "1" * 5000]

    def place(self, text):
        """The line and the word that `read` names as wrong."""
        error = raised_by(Problem.read, text)
        self.assertIs(type(error), ParseError, text[:90] if isinstance(text, str) else text)
        return (error.line, error.word)

    def text(self, line=None, words=None):
        """A right text, with other words in one line."""
        lines = ["reach 2", "start a b c", "goal b"]
        if line is not None:
            lines[line] = words
        return "\n".join(lines)

    def test_read_back(self):
        self.assertEqual(Problem.read(text="reach 2\nstart a b c\ngoal -"), Problem(("a", "b", "c"), reach=2))
        for start, goal, reach in random_pairs(333, 100):
            text = str(Problem(start, goal, reach=reach))
            self.assertEqual(str(Problem.read(text)), text)
        text = str(Problem(letters(40), ("abcdefgh",) * 40, reach=40))
        self.assertEqual(str(Problem.read(text)), text)

    def test_no_strings(self):
        for thing in STRANGE + [["reach 2"], ("reach 2", "start a", "goal -")]:
            self.assertEqual(self.place(thing), (0, 0))

    def test_the_reach(self):
        for words, word in [
            ("", 0), ("reach", 1), ("reach ", 1), ("reach 1", 1), ("reach 41", 1), ("reach 0", 1), ("reach 02", 1),
            ("reach +3", 1), ("reach -3", 1), ("reach 3 ", 2), ("reach 3 3", 2), ("reach  3", 1), (" reach 3", 0),
            ("Reach 3", 0), ("reach3", 0), ("reach a", 1), ("reach -", 1), ("3", 0), ("reach 1 1", 1), ("start 3", 0),
            ("reach " + "3" * 5000, 1), ("reach: 3", 0),
        ]:
            self.assertEqual(self.place(self.text(0, words)), (0, word), words)
        for reach in range(2, 41):
            self.assertEqual(Problem.read(self.text(0, f"reach {reach}")).reach, reach)

    def test_the_stacks(self):
        forty = " ".join(letters(40))
        for line, name in [(1, "start"), (2, "goal")]:
            for words, word in [
                ("", 0), (name, 1), (f"{name} ", 1), (f"{name} a ", 2), (f"{name} a  b", 2), (f"{name}  a", 1), (f" {name} a", 0),
                (f"{name.upper()} a", 0), (f"{name}s a", 0), (f"{name} - a", 1), (f"{name} a -", 2), (f"{name} - -", 1),
                (f"{name} - ", 1), (f"{name} A", 1), (f"{name} a b3", 2), (f"{name} abcdefghi", 1), ("reach 2", 0),
                (f"{name} {forty} a", 41), (f"{name} {forty} A", 41), (f"{name} {forty} ", 41), (f"{name} {forty} -", 41),
                (f"{name} {forty[:-1]}A a", 40), (["goal a", "start a"][line - 1], 0),
            ]:
                self.assertEqual(self.place(self.text(line, words)), (line, word), words)

    def test_lines(self):
        lines = self.text().split("\n")
        for count in range(1, 3):
            self.assertEqual(self.place("\n".join(lines[:count])), (count, 0))
        for line in range(3):
            left_out = lines[:line] + lines[line + 1:]
            self.assertEqual(self.place("\n".join(left_out)), (line, 0))
            self.assertEqual(self.place("\n".join(lines[:line + 1] + lines[line:])), (line + 1, 0))
        for line in range(4):
            self.assertEqual(self.place("\n".join(lines[:line] + [""] + lines[line:])), (line, 0))
        for fourth in ("", "goal b", "x", "-", " "):
            self.assertEqual(self.place("\n".join(lines + [fourth])), (3, 0))
            self.assertEqual(self.place("\n".join(lines + [fourth, "x"])), (3, 0))
        self.assertEqual([self.place(""), self.place("\n"), self.place(" ")], [(0, 0)] * 3)

    def test_each_word(self):
        lines = [["reach", "2"], ["start", "a", "b", "c"], ["goal", "b"]]
        for line, words in enumerate(lines):
            for word, wrong in itertools.product(range(len(words)), self.WRONG + ["-"]):
                changed = " ".join(words[:word] + [wrong] + words[word + 1:])
                if wrong != "-" or changed not in ("goal -",):
                    self.assertEqual(self.place(self.text(line, changed)), (line, word), changed[:50])

    def test_two_mistakes(self):
        chance = random.Random(334)
        lines = [["reach", "2"], ["start", "a", "b", "c"], ["goal", "b", "b"]]
        places = [(line, word) for line, words in enumerate(lines) for word in range(len(words))]
        for one, other in itertools.combinations(places, 2):
            for _ in range(5):
                changed = [list(words) for words in lines]
                changed[one[0]][one[1]], changed[other[0]][other[1]] = chance.choice(self.WRONG), chance.choice(self.WRONG)
                self.assertEqual(self.place("\n".join(" ".join(words) for words in changed)), one)
                changed[one[0]][one[1]] = lines[one[0]][one[1]]
                self.assertEqual(self.place("\n".join(" ".join(words) for words in changed)), other)
        self.assertEqual(self.place("reach\nstart A"), (0, 1))
        self.assertEqual(self.place("reaches\nstart A"), (0, 0))


class OwnMethodTest(unittest.TestCase):
    def test_defined_in_the_class_itself(self):
        for name in [
            "__init__", "__eq__", "__str__", "__repr__", "read", "change", "shuffle", "evidence", "swapped", "start", "goal",
            "reach", "answer", "reachable", "goal_depth", "least",
        ]:
            self.assertIn(name, vars(Problem))


if __name__ == "__main__":
    unittest.main()
