"""The examples of the document, as Python sessions."""

import unittest

from deepedge import errors

SESSIONS = r"""
>>> from deepedge.values import make_stack
>>> make_stack("a", "b", "a")
('a', 'b', 'a')

>>> from deepedge.values import make_stack
>>> make_stack("a", "B", 3)
raises InvalidStack(1)

>>> from deepedge.instructions import cells_needed, height_change, shuffle
>>> both = shuffle(("dup", 2), [("swap", 1), ("pop",)], ())
>>> [both, cells_needed(both[1]), height_change(both[2])]
[(('dup', 2), ('swap', 1), ('pop',)), 2, -1]

>>> from deepedge.instructions import shuffle
>>> shuffle(("pop",), ("dup", 0))
raises InvalidShuffle(1)

>>> from deepedge.machine import lowest_height, run, trace, untouched
>>> deeds = (("pop",), ("dup", 2), ("swap", 1))
>>> [run(("a", "b", "c"), deeds, reach=2), lowest_height(("a", "b", "c"), deeds), untouched(("a", "b", "c"), deeds, ())]
[('a', 'a', 'b'), 2, 0]

>>> from deepedge.machine import trace
>>> list(trace(("a", "b"), ("pop",), ("dup", 1), reach=2))
[('a', 'b'), ('a',), ('a', 'a')]

>>> from deepedge.machine import run
>>> run(("a", "b", "c"), ("pop",), ("dup", 3), reach=2)
raises Fault(1, ('dup', 3))

>>> from deepedge.machine import BoundedMachine, Machine
>>> machine = Machine(("a", "b", "c"), reach=2)
>>> made = [machine.do(("pop",), ("dup", 1)), machine.do(("swap", 2)), machine.undo(), machine.steps_done, str(machine)]
>>> [made, Machine.read("2: a b b") == machine, BoundedMachine.read("2: a b b") == machine]
[[3, 3, 3, 2, '2: a b b'], True, False]

>>> from deepedge.machine import BoundedMachine
>>> machine = BoundedMachine(("a", "b"), reach=2, most=3)
>>> machine.do(("dup", 1), ("dup", 2), ("pop",))
raises TooHigh(3)

>>> from deepedge.machine import Machine
>>> Machine.read("3: a  b")
raises ParseError(0, 2)

>>> from deepedge.cards import card_of
>>> [card_of(), card_of(("swap", 1)), card_of(("pop",), ("dup", 2))]
[(0, ()), (2, (2, 1)), (3, (1, 2, 1))]

>>> from deepedge.cards import is_card
>>> [is_card((2, (2, 1))), is_card((1, (2,))), is_card((0, (0,)))]
[True, False, False]

>>> from deepedge.cards import apply_card
>>> apply_card(("a", "b", "c"), (2, (2, 1, 2)))
('a', 'c', 'b', 'c')

>>> from deepedge.cards import apply_card
>>> apply_card(("a",), (2, (2, 1)))
raises TooLow(2)

>>> from deepedge.cards import compose
>>> compose((1, ()), (2, (1, 2, 1)))
(3, (1, 2, 1))

>>> from deepedge.effects import same_effect
>>> same_effect((("swap", 1), ("swap", 1)), (("dup", 1), ("pop",)))
False

>>> from deepedge.effects import separating_stack
>>> separating_stack((("swap", 1),), (("dup", 2), ("swap", 2), ("pop",)))
('a', 'b')

>>> from deepedge.effects import separating_stack
>>> separating_stack((("dup", 1), ("pop",)), ())
()

>>> from deepedge.cards import card_of
>>> from deepedge.realize import realize
>>> card_of(realize((3, (2, 2))))
(3, (2, 2))

>>> from deepedge.realize import reach_needed
>>> [reach_needed(), reach_needed(("dup", 5), ("pop",), ("swap", 3))]
[2, 5]

>>> from deepedge.realize import tidied
>>> tidied(("swap", 2), ("dup", 1), ("swap", 1), ("pop",), ("swap", 2), ("pop",))
(('pop',),)

>>> from deepedge.floors import depth_of, floors, profile
>>> target = ("p", "a", "b", "b", "c")
>>> [depth_of(target, reach=2), floors(("p", "a", "b", "c"), target, reach=2), profile(target, reach=2)]
[1, [1], (1, ('p',), ('a', 'b', 'c'))]

>>> from deepedge.floors import floors
>>> stack = ("a", "b", "c", "d")
>>> [floors(stack, ("a", "b", "c", "d"), reach=2), floors(stack, ("a", "b", "b", "c"), reach=2), floors(stack, ("a", "a", "b", "c"), reach=2)]
[[1], [0, 1], []]

>>> from deepedge.judge import decide, reaches
>>> [reaches(("a", "b", "c", "d"), ("b", "c", "c"), reach=2), decide(("a", "b", "c", "d"), ("b", "c", "d"), reach=2)]
[True, ('blocked', (0, (), 'edge', ('b', 'c', 'd')))]

>>> from deepedge.judge import decide
>>> deep = ("p", "a", "b", "c")
>>> [decide(deep, deep + ("a",), reach=2), decide(deep, deep + ("a",), reach=3), decide(deep, ("q",), reach=2)]
[('blocked', (2, ('a', 'b', 'c'), 'missing', 'a')), ('reached', 0), ('blocked', (0, (), 'missing', 'q'))]

>>> from deepedge.blocked import check_blocked
>>> check_blocked(("a", "b", "c", "d"), ("b", "c", "d"), (0, (), "edge", ("b", "c", "d")), reach=2)
True

>>> from deepedge.blocked import check_blocked
>>> check_blocked(("a", "b", "c", "d"), ("b", "c", "c"), (0, (), "missing", "b"), reach=2)
raises InvalidCertificate('missing')

>>> from deepedge.building import build
>>> from deepedge.machine import run
>>> start, target = ("a", "b", "c", "d"), ("a", "d", "d")
>>> run(start, build(start, target, reach=2), reach=2)
('a', 'd', 'd')

>>> from deepedge.building import build
>>> build(("a", "b"), ("c",))
raises Blocked(certificate=(0, (), 'missing', 'c'))

>>> from deepedge.building import build
>>> build(("a", "b"), ("b",), floor=1)
raises NoFloor(floor=1)

>>> from deepedge.building import build, building_steps
>>> start, target = ("a", "b", "c"), ("c", "a")
>>> tuple(building_steps(start, target)) == build(start, target)
True

>>> from deepedge.machine import run
>>> from deepedge.touched import descend
>>> sorted(run(("a", "b", "c", "d"), descend(("a", "b", "c", "d"), 2, "a", "d", reach=2), reach=2))
['a', 'd']

>>> from deepedge.touched import descend
>>> descend(("a", "b"), 1, "c")
raises InvalidWanted(value='c')

>>> from deepedge.touched import descend
>>> descend(("a", "b", "c"), 3, "a", "b", "c", reach=2)
raises TooMany(limit=2)

>>> from deepedge.touched import never_higher
>>> never_higher(("a", "b"), ("dup", 1), ("pop",), ("pop",))
3

>>> from deepedge.layers import shortest
>>> shortest(("a", "b"), ("b", "a"), reach=2)
((('swap', 1),), ((('a', 'b'),),))

>>> from deepedge.layers import shortest
>>> shortest(("a", "b"), ("b", "a", "b"), limit=1)
raises TooMany(1)

>>> from deepedge.layercheck import check_layers
>>> check_layers(("a",), ("a", "a"), ((("a",),),))
1

>>> from deepedge.layercheck import check_layers
>>> check_layers(("a",), ("a",), ((("a",),),))
raises InvalidCertificate('target')

>>> from deepedge.reaches import least_reach
>>> [least_reach(("a", "b", "c", "d"), ("b", "c", "d"))[0], least_reach(("a", "b"), ("b",)), least_reach(("a",), ("b",))]
[3, (2, None), None]

>>> from deepedge.reaches import helpful_pushes
>>> helpful_pushes(("a", "b", "c"), ("a", "b", "c", "a"), reach=2)
['a']

>>> from deepedge.renaming import renamed
>>> renamed(("a", "b", "a"), a="x", b="a")
('x', 'a', 'x')

>>> from deepedge.renaming import renamed
>>> renamed(("a", "b"), b=0)
raises InvalidStack(1)

>>> from deepedge.renaming import raised
>>> raised(("p",), ("a", "b"), ())
[('p', 'a', 'b'), ('p',)]

>>> from deepedge.words import covering, surjections
>>> [surjections(3, 2), surjections(0, 0), surjections(1, 2), covering(3, 2, 1)]
[6, 1, 0, 7]

>>> from deepedge.targets import count_targets
>>> [count_targets(("a", "b", "c"), 4, reach=2), count_targets(("a", "b", "c"), 4, reach=2, beginning=("a",))]
[63, 21]

>>> from deepedge.targets import target_at, target_index
>>> [target_index(("a", "b", "c"), ("b", "a", "a"), reach=2), target_at(("a", "b", "c"), 3, 9, reach=2)]
[9, ('b', 'a', 'a')]

>>> from deepedge.targets import target_at
>>> target_at(("a", "b", "c"), 3, 27, reach=2)
raises NoMember(27)

>>> from deepedge.targets import targets
>>> list(targets(("b", "a"), 1))
[('a',), ('b',)]

>>> from deepedge.sources import count_sources
>>> [count_sources(("a", "b"), 2, ("a", "b"), reach=2), count_sources(("a", "b", "c"), 3, ("a", "b", "c"), reach=2)]
[2, 6]

>>> from deepedge.losses import first_lost, lost_count
>>> [lost_count(("a", "b"), 2, reach=2), first_lost(("a", "b"), 2, reach=2), first_lost(("a", "b"), 0, reach=2)]
[3, ('a', 'b'), None]

>>> from deepedge.losses import pop_loses
>>> [pop_loses(("a", "b"), reach=2), pop_loses(("a", "a"), reach=2)]
[(1, ('b',)), None]

>>> from deepedge.layouts import layout_for
>>> layout_for(("a", "b"), ("a", "c"), wanted=("b",), reach=2)
('barred', (('missing', 1, 'b'), ('missing', 1, 'b')))

>>> from deepedge.layoutcheck import check_barred
>>> rows = (("missing", 1, "b"), ("missing", 0, "b"))
>>> check_barred((("a", "b"), ("a", "c")), ("b",), rows, reach=2)
raises InvalidCertificate('missing')

>>> from deepedge.joins import Join
>>> join = Join(("a", "b"), ("b", "a"), wanted=("a",), reach=2)
>>> index = join.add(("c",))
>>> barred = join.rows
>>> join.undo()
>>> [index, barred, len(join), "a" in join.layout]
[2, (('missing', 2, 'a'),), 2, True]

>>> from deepedge.joins import Join
>>> str(Join(("a", "b"), wanted=("b", "a"), reach=3))
'reach 3\nwanted a b\nstack a b'

>>> from deepedge.joins import Join
>>> Join.read("reach 3\nwanted b a\nstack -")
raises ParseError(line=1, word=2)

>>> from deepedge.joins import Loop
>>> loop = Loop(("a",), ("b", "a"), wanted=("a",), reach=2, uses=2)
>>> [len(set(loop.layout[-3:])), len(list(loop.shuffles()))]
[1, 2]

>>> from deepedge.steps import live_values
>>> live_values((("add", ("a", "b"), "c"), ("mul", ("c", "a"), "d")), ("d",))
[('a',), ()]

>>> from deepedge.assembling import assemble
>>> from deepedge.running import execute
>>> steps = (("max", ("a", "b"), "c"), ("pow", ("c", "b"), "d"))
>>> code = assemble(("a", "b"), steps, target=("d",), reach=2)
>>> execute(code, (3, 2), reach=2, max=max, pow=pow)
(9,)

>>> from deepedge.assembling import assemble
>>> assemble(("a", "b", "c"), (("neg", ("a",), "d"),), target=("b", "c", "d"), reach=2)
raises Overloaded(step=0)

>>> from deepedge.running import execute
>>> execute((("call", "neg", 1),), (5,))
raises UnknownOperation(name='neg')

>>> from deepedge.formatting import card_text, code_text, shuffle_text, stack_text
>>> [stack_text(("a", "b")), shuffle_text((("dup", 3), ("pop",))), card_text((1, ())), stack_text(())]
['a b', 'dup3 pop', '1: -', '-']

>>> from deepedge.formatting import certificate_text, code_text
>>> certificate_text((2, ("a", "b", "c"), "ground", 1))
'floor 2, witnesses a b c: ground 1'

>>> from deepedge.formatting import code_text
>>> code_text((("swap", 1), ("call", "max", 2), ("call", "neg", 1), ("pop",)))
'swap1 max/2\nneg/1\npop'

>>> from deepedge.parsing import parse_card, parse_code, parse_shuffle
>>> [parse_shuffle("dup2 pop"), parse_card("2: 2 1"), parse_code("pop neg/1\nswap1")]
[(('dup', 2), ('pop',)), (2, (2, 1)), (('pop',), ('call', 'neg', 1), ('swap', 1))]

>>> from deepedge.parsing import parse_stack
>>> parse_stack("a  b")
raises ParseError(0, 1)

>>> from deepedge.parsing import parse_code
>>> parse_code("max/2\npop dup0")
raises ParseError(1, 1)

>>> from deepedge.parsing import parse_code
>>> parse_code("pop\nneg/1")
raises ParseError(0, 1)

>>> from deepedge.problem import Problem
>>> problem = Problem(("a", "b", "c", "d"), ("b", "c", "d"), reach=2)
>>> wider = Problem(problem.start, problem.goal, reach=3)
>>> [problem.reachable, problem.least, wider.answer, str(wider.swapped())]
[False, 3, ('reached', 0), 'reach 3\nstart b c d\ngoal a b c d']

>>> from deepedge.problem import Problem
>>> Problem.read("reach 2\nstart a B\ngoal -")
raises ParseError(1, 2)

>>> from deepedge.desk import Desk
>>> desk = Desk("reach 2\nstart a b c d\ngoal b c d")
>>> told = [desk.execute("answer"), desk.execute("goal b c c"), desk.execute("answer")]
>>> told + [desk.execute("count 3"), desk.execute("save x"), desk.execute("run pop"), desk.execute("undo")]
['blocked floor 0, witnesses -: edge b c d', 'ok', 'reached 0', '58', 'ok', 'a b c', 'run']

>>> from deepedge.desk import Desk
>>> Desk().execute("start a 1")
raises ParseError(0, 2)

>>> from deepedge.desk import Desk
>>> Desk().execute("load x")
raises NoName('x')

>>> from deepedge.literals import decide_with, reaches_with, run_with
>>> stack = ("a", "b", "c", "d")
>>> [reaches_with(stack, ("b", "c", "d"), reach=2), reaches_with(stack, ("b", "c", "d"), constants=("d",), reach=2)]
[False, True]

>>> from deepedge.literals import decide_with, run_with
>>> [decide_with(("a",), ("b", "k"), constants=("k",)), run_with(("a",), ("push", "k"), ("swap", 1), constants=("k",))]
[('blocked', (0, (), 'missing', 'b')), ('k', 'a')]

>>> from deepedge.literals import run_with
>>> run_with(("a",), ("push", "b"), constants=("k",))
raises Fault(0, ('push', 'b'))

>>> from deepedge.literalcheck import check_with
>>> check_with(("a",), ("b", "k"), (0, (), "missing", "k"), constants=("k",))
raises InvalidCertificate('missing')

>>> from deepedge.literalbuild import build_with
>>> from deepedge.literals import run_with
>>> steps = build_with(("a", "b", "c", "d"), ("b", "d", "c", "d"), constants=("d",), reach=2)
>>> run_with(("a", "b", "c", "d"), steps, constants=("d",), reach=2)
('b', 'd', 'c', 'd')

>>> from deepedge.permuting import cycles_of, least_swaps, most_swaps
>>> start, goal = ("a", "b", "c", "d"), ("b", "a", "d", "c")
>>> [cycles_of(start, goal), least_swaps(start, goal)[0], most_swaps(4), cycles_of(start, goal, reach=2)]
[((0, 1), (2, 3)), 4, 4, None]

>>> from deepedge.permuting import check_swaps
>>> start, goal = ("a", "b", "c", "d"), ("b", "a", "d", "c")
>>> [check_swaps(start, goal, (4, ((0, 1), (2, 3)))), check_swaps(start, goal, (1, ((2, 3),)))]
[True, True]

>>> from deepedge.permuting import check_swaps
>>> check_swaps(("a", "b", "c", "d"), ("b", "a", "d", "c"), (2, ((2, 3),)))
raises InvalidCertificate('count')
"""


class ExampleTest(unittest.TestCase):
    def test_examples(self):
        sessions = SESSIONS.strip().split("\n\n")
        self.assertEqual(len(sessions), 82)
        for session in sessions:
            with self.subTest(session):
                self.check(session)

    def check(self, session):
        """Execute the lines of one session and compare the last call with the line behind it."""
        lines = session.split("\n")
        known = {}
        *before, call = [line.removeprefix(">>> ") for line in lines[:-1]]
        for line in before:
            exec(line, known)
        expected = lines[-1]
        if not expected.startswith("raises "):
            self.assertEqual(repr(eval(call, known)), expected)
            return
        error = eval(expected.removeprefix("raises "), vars(errors).copy())
        with self.assertRaises(error.__class__) as caught:
            eval(call, known)
        self.assertEqual(vars(caught.exception), vars(error))


if __name__ == "__main__":
    unittest.main()
