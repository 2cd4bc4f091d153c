"""[2], [26], [30], [42], [51], [56] to [59]: the desk."""

import copy
import random
import unittest

from samples import STRANGE, letters, raised_by, reached_by_fact

from deepedge.building import build
from deepedge.cards import card_of
from deepedge.desk import Desk
from deepedge.errors import (
    Blocked, Fault, InvalidReach, InvalidStack, InvalidWanted, NoFloor, NoMember, NoName, NothingToUndo, ParseError, TooMany,
    UnknownCommand,
)
from deepedge.floors import depth_of, floors
from deepedge.formatting import card_text, certificate_text, shuffle_text, stack_text
from deepedge.judge import decide
from deepedge.layers import shortest
from deepedge.layouts import layout_for
from deepedge.losses import pop_loses
from deepedge.machine import run
from deepedge.parsing import parse_shuffle, parse_stack
from deepedge.problem import Problem
from deepedge.reaches import least_reach
from deepedge.realize import tidied
from deepedge.targets import count_targets, target_at, target_index

ALONE = ["solve", "undo", "problem", "saved", "answer", "depth", "least", "floors", "index", "loses", "shortest"]
NUMBERS = ["reach", "count", "at"]
NAMES = ["save", "load"]
STACKS = ["start", "goal", "layout"]
SHUFFLES = ["run", "card", "tidy"]
EVERY = ALONE + NUMBERS + NAMES + STACKS + SHUFFLES + ["build"]
TEXT = "reach 2\nstart a b c d\ngoal b c d"


def words_of(things):
    return " ".join(str(thing) for thing in things) or "-"


class DeskTestCase(unittest.TestCase):
    def raises(self, function, *arguments):
        """The class and the attributes of the error that the call raises."""
        before = copy.deepcopy(arguments)
        error = raised_by(function, *arguments)
        self.assertIsNotNone(error, before)
        self.assertEqual(arguments, before)
        return (type(error), *vars(error).values())

    def facts(self, desk):
        """What the desk tells of itself, and whether it has something to undo."""
        other = copy.deepcopy(desk)
        undone = []
        while (error := raised_by(lambda: undone.append(other.execute("undo")))) is None:
            undone.append(other.execute("problem") + other.execute("saved"))
        self.assertIs(type(error), NothingToUndo)
        saved = desk.execute("saved")
        stacks = []
        for name in saved.split() if saved != "-" else []:
            other = copy.deepcopy(desk)
            other.execute(f"load {name}")
            stacks.append(other.execute("problem"))
        return (desk.execute("problem"), saved, stacks, undone)

    def refuses(self, desk, expected, command):
        """Check that the command raises the error and changes nothing of the desk."""
        before = self.facts(desk)
        self.assertEqual(self.raises(desk.execute, command), expected, command)
        self.assertEqual(self.facts(desk), before)

    def outcome(self, desk, command):
        """The output of the command, or the class and the attributes of its error."""
        error = raised_by(desk.execute, command)
        return desk.execute(command) if error is None else (type(error), vars(error))

    def told(self, text, *commands):
        """The outputs of the commands on one desk."""
        desk = Desk(text)
        return [desk.execute(command) for command in commands]


class ConstructorTest(DeskTestCase):
    def test_texts(self):
        nothing = "reach 16 | start - | goal -"
        self.assertEqual([Desk().execute("problem"), Desk("").execute("problem"), Desk(text="").execute("problem")], [nothing] * 3)
        self.assertEqual(Desk(TEXT).execute("problem"), TEXT.replace("\n", " | "))
        self.assertEqual(Desk(text=TEXT).execute(command="saved"), "-")

    def test_wrong_texts(self):
        for text, line, word in [
            (" ", 0, 0), ("\n", 0, 0), ("reach 2", 1, 0), ("reach 1\nstart a\ngoal a", 0, 1), (TEXT + "\n", 3, 0),
            ("reach 2\nstart a B\ngoal -", 1, 2), ("reach 2\nstart a\ngoal", 2, 1), (TEXT.replace("\n", " | "), 0, 2),
        ]:
            self.assertEqual(self.raises(Desk, text), (ParseError, line, word))
        for thing in STRANGE:
            if thing != "":
                self.assertEqual(self.raises(Desk, thing), (ParseError, 0, 0))

    def test_example(self):
        told = self.told(TEXT, "answer", "goal b c c", "answer", "count 3", "save x", "run pop", "undo")
        self.assertEqual(
            told, ["blocked floor 0, witnesses -: edge b c d", "ok", "reached 0", "58", "ok", "a b c", "run"]
        )

    def test_a_desk_of_the_problem(self):
        desk = Desk()
        for command in ("start a b c d", "reach 3", "goal d d a", "save x", "run pop", "goal -", "start -"):
            desk.execute(command)
            again = Desk(desk.execute("problem").replace(" | ", "\n"))
            for asked in ("problem", "answer", "depth", "least", "floors", "index", "loses", "count 3", "at 0"):
                self.assertEqual(self.outcome(again, asked), self.outcome(desk, asked))
            self.assertEqual(again.execute("saved"), "-")


class CommandFormTest(DeskTestCase):
    def test_no_strings(self):
        for thing in STRANGE + [("undo",), ["problem"], 3]:
            if not isinstance(thing, str):
                self.refuses(Desk(TEXT), (UnknownCommand, thing), thing)

    def test_other_first_words(self):
        commands = ["", " ", "Reach 3", "reaches 3", "-", "reach\n3", "x", "execute", "push a", "problem\n", "\nproblem", " problem"]
        commands += [name.upper() for name in EVERY] + [name + "s" for name in EVERY] + [" " + name for name in EVERY]
        for command in commands + [thing for thing in STRANGE if isinstance(thing, str)]:
            self.refuses(Desk(TEXT), (UnknownCommand, command), command)

    def test_numbers_of_words(self):
        desk = Desk(TEXT)
        for name in ALONE:
            for command in (f"{name} ", f"{name} a", f"{name} 1", f"{name} -", f"{name}  ", f"{name} a b"):
                self.refuses(desk, (UnknownCommand, command), command)
        for name in NUMBERS + NAMES:
            for command in (name, f"{name} 3 3", f"{name} a a", f"{name} 3 ", f"{name}  3", f"{name} a ", f"{name}  "):
                self.refuses(desk, (UnknownCommand, command), command)
        for name in STACKS + SHUFFLES:
            self.refuses(desk, (UnknownCommand, name), name)
        for command in ("build 0 0", "build 0 ", "build  ", "build  0", "build a b"):
            self.refuses(desk, (UnknownCommand, command), command)

    def test_wrong_numbers(self):
        desk = Desk(TEXT)
        wrong = ["", "a", "-", "-1", "+1", "01", "00", "1.", "1\n", "\n1", "1_0", "0x1", "A", "1" * 31, "9" * 31, "1" * 5000, "~"]
        for name in NUMBERS + ["build"]:
            for word in wrong:
                self.refuses(desk, (ParseError, 0, 1), f"{name} {word}")

    def test_long_numbers(self):
        desk = Desk(TEXT)
        number = int("9" * 30)
        self.refuses(desk, (InvalidReach, number), f"reach {number}")
        self.refuses(desk, (TooMany, 60), f"count {number}")
        self.refuses(desk, (NoMember, number), f"at {number}")
        self.refuses(desk, (NoMember, 10 ** 29), "at 1" + "0" * 29)
        desk.execute("goal a")
        self.refuses(desk, (NoFloor, number), f"build {number}")

    def test_wrong_names(self):
        for name in NAMES:
            for word in ("", "-", "A", "a1", "abcdefghi", "a\n", "3", "a-"):
                self.refuses(Desk(TEXT), (ParseError, 0, 1), f"{name} {word}")

    def test_wrong_stacks(self):
        desk = Desk(TEXT)
        forty = " ".join(letters(40))
        for name in STACKS:
            for words, word in [
                ("", 1), ("A", 1), ("a B", 2), ("a ", 2), ("a  b", 2), (" a", 1), ("- a", 1), ("a -", 2), ("- -", 1), ("- ", 1),
                ("a\n", 1), ("a b\nc", 2), ("3", 1), ("abcdefghi", 1), (f"{forty} a", 41), (f"{forty} A", 41), (f"{forty} ", 41),
                ("a 1", 2),
            ]:
                self.refuses(desk, (ParseError, 0, word), f"{name} {words}")

    def test_wrong_shuffles(self):
        desk = Desk(TEXT)
        for name in SHUFFLES:
            for words, word in [
                ("", 1), ("a", 1), ("pop a", 2), ("pop ", 2), ("pop  pop", 2), ("- pop", 1), ("pop -", 2), ("dup0", 1), ("dup41", 1),
                ("dup 1", 1), ("max/2", 1), ("pop\n", 1), ("pop pop\ndup1", 2), ("dup01", 1), ("pop " * 600 + "pop", 601),
                ("pop " * 600 + "x", 601), ("pop " * 599 + "x pop", 600),
            ]:
                self.refuses(desk, (ParseError, 0, word), f"{name} {words}")
            self.assertNotIsInstance(raised_by(Desk("").execute, f"{name} {'dup1 ' * 599}pop"), ParseError)


class ChangingTest(DeskTestCase):
    def test_assignments(self):
        desk = Desk()
        for command, told in [
            ("reach 2", "reach 2 | start - | goal -"), ("start a b c", "reach 2 | start a b c | goal -"),
            ("goal c", "reach 2 | start a b c | goal c"), ("start -", "reach 2 | start - | goal c"),
            ("goal -", "reach 2 | start - | goal -"), ("reach 40", "reach 40 | start - | goal -"),
        ]:
            self.assertEqual(desk.execute(command), "ok")
            self.assertEqual(desk.execute("problem"), told)
        for reach in (0, 1, 41):
            self.refuses(desk, (InvalidReach, reach), f"reach {reach}")
        forty = " ".join(letters(40))
        self.assertEqual(self.told("", f"start {forty}", f"goal {forty}", "answer"), ["ok", "ok", "reached 23"])

    def test_run(self):
        desk = Desk(TEXT)
        self.assertEqual([desk.execute("run pop dup2"), desk.execute("run -")], ["a b c b", "a b c b"])
        self.assertEqual(desk.execute("problem"), "reach 2 | start a b c b | goal b c d")
        self.refuses(desk, (Fault, 1, ("dup", 3)), "run pop dup3")
        self.refuses(desk, (Fault, 4, ("pop",)), "run pop pop pop pop pop")
        self.assertEqual(desk.execute("run pop pop pop pop"), "-")
        self.assertEqual(desk.execute("problem"), "reach 2 | start - | goal b c d")
        self.refuses(desk, (Fault, 0, ("pop",)), "run pop")

    def test_run_to_40_values(self):
        desk = Desk("reach 2\nstart a\ngoal -")
        self.refuses(desk, (InvalidStack, 40), "run" + " dup1" * 40)
        # On the way there may be more.
        self.assertEqual(desk.execute("run" + " dup1" * 50 + " pop" * 11), "a" + " a" * 39)
        self.refuses(desk, (InvalidStack, 40), "run dup1")
        self.refuses(desk, (Fault, 1, ("dup", 3)), "run dup1 dup3")
        self.assertEqual(desk.execute("run dup1 pop"), "a" + " a" * 39)
        self.assertEqual(desk.execute("run" + " dup1" * 300 + " pop" * 300), "a" + " a" * 39)

    def test_solve(self):
        desk = Desk("reach 2\nstart a b c\ngoal c a a")
        told = desk.execute("solve")
        self.assertEqual(run(("a", "b", "c"), parse_shuffle(told), reach=2), ("c", "a", "a"))
        self.assertEqual(desk.execute("problem"), "reach 2 | start c a a | goal c a a")
        again = parse_shuffle(desk.execute("solve"))
        self.assertEqual(run(("c", "a", "a"), again, reach=2), ("c", "a", "a"))
        self.assertEqual([desk.execute("undo"), desk.execute("undo")], ["solve", "solve"])
        self.assertEqual(desk.execute("problem"), "reach 2 | start a b c | goal c a a")
        self.refuses(Desk(TEXT), (Blocked, (0, (), "edge", ("b", "c", "d"))), "solve")
        self.assertEqual(self.told("", "solve", "problem"), ["-", "reach 16 | start - | goal -"])

    def test_save_and_load(self):
        desk = Desk(TEXT)
        self.assertEqual([desk.execute("save x"), desk.execute("saved")], ["ok", "x"])
        self.assertEqual([desk.execute("start b"), desk.execute("load x")], ["ok", "ok"])
        self.assertEqual(desk.execute("problem"), "reach 2 | start a b c d | goal b c d")
        desk.execute("run pop")
        self.assertEqual([desk.execute("save b"), desk.execute("save x"), desk.execute("saved")], ["ok", "ok", "b x"])
        desk.execute("start -")
        self.assertEqual([desk.execute("load x"), desk.execute("problem")], ["ok", "reach 2 | start a b c | goal b c d"])
        for name in ("y", "problem", "xx"):
            self.refuses(desk, (NoName, name), f"load {name}")
        self.refuses(Desk(), (NoName, "x"), "load x")

    def test_six_saved_stacks(self):
        desk = Desk(TEXT)
        names = ["f", "e", "d", "c", "b", "abcdefgh"]
        for count, name in enumerate(names, 1):
            desk.execute(f"start {name}")
            self.assertEqual(desk.execute(f"save {name}"), "ok")
            self.assertEqual(desk.execute("saved"), " ".join(sorted(names[:count])))
        self.refuses(desk, (TooMany, 6), "save g")
        self.assertEqual([desk.execute("start x"), desk.execute("save c"), desk.execute("load d")], ["ok"] * 3)
        self.assertEqual(desk.execute("problem"), "reach 2 | start d | goal b c d")
        self.refuses(desk, (TooMany, 6), "save a")
        for name in names:
            desk.execute(f"load {name}")
            expected = "x" if name == "c" else name
            self.assertEqual(desk.execute("problem"), f"reach 2 | start {expected} | goal b c d")


class UndoTest(DeskTestCase):
    def test_each_command(self):
        desk = Desk("reach 2\nstart a b c\ngoal c a")
        commands = ["reach 3", "save x", "start a c", "goal a", "run dup1", "solve", "save x", "save y", "load x", "reach 3"]
        states = []
        for command in commands:
            states.append((desk.execute("problem"), desk.execute("saved")))
            desk.execute(command)
        self.assertEqual((desk.execute("problem"), desk.execute("saved")), ("reach 3 | start a | goal a", "x y"))
        for command, state in zip(reversed(commands), reversed(states)):
            self.assertEqual(desk.execute("undo"), command.split()[0])
            self.assertEqual((desk.execute("problem"), desk.execute("saved")), state)
        self.refuses(desk, (NothingToUndo, 1), "undo")

    def test_of_save(self):
        desk = Desk(TEXT)
        for command in ("save x", "run pop", "save x"):
            desk.execute(command)
        self.assertEqual([desk.execute("undo"), desk.execute("load x")], ["save", "ok"])
        self.assertEqual(desk.execute("problem"), "reach 2 | start a b c d | goal b c d")
        self.assertEqual([desk.execute("undo") for _ in range(3)], ["load", "run", "save"])
        self.assertEqual(desk.execute("saved"), "-")
        self.refuses(desk, (NoName, "x"), "load x")

    def test_what_is_not_undone(self):
        desk = Desk(TEXT)
        self.refuses(desk, (NothingToUndo, 1), "undo")
        desk.execute("reach 3")
        for command in ("answer", "problem", "floors", "build", "card pop", "count 3", "index", "at 0", "loses", "layout a", "reach 1"):
            raised_by(desk.execute, command)
        self.assertEqual(desk.execute("undo"), "reach")
        self.refuses(desk, (NothingToUndo, 1), "undo")


class TellingTest(DeskTestCase):
    def test_answers(self):
        for start, goal, answer in [
            ("a b c d", "b c d", "blocked floor 0, witnesses -: edge b c d"), ("a b c d", "b c c", "reached 0"),
            ("p a b c", "p a b c a", "blocked floor 2, witnesses a b c: missing a"), ("a b c d", "a b c d", "reached 1"),
            ("p", "q a b c", "blocked floor 1, witnesses a b c: ground 0"), ("-", "-", "reached 0"),
        ]:
            self.assertEqual(self.told(f"reach 2\nstart {start}\ngoal {goal}", "answer"), [answer])

    def test_properties(self):
        self.assertEqual(self.told(TEXT, "depth", "least", "floors"), ["0", "3", "-"])
        self.assertEqual(self.told("reach 2\nstart a b c d\ngoal a b b c", "depth", "least", "floors"), ["0", "2", "0 1"])
        self.assertEqual(self.told("reach 2\nstart a\ngoal a b c d", "depth", "least", "floors"), ["1", "-", "-"])

    def test_build(self):
        self.refuses(Desk(TEXT), (Blocked, (0, (), "edge", ("b", "c", "d"))), "build")
        self.refuses(Desk(TEXT), (Blocked, (0, (), "edge", ("b", "c", "d"))), "build 9")
        start, goal = ("a", "b", "c", "d"), ("a", "b", "b", "c")
        desk = Desk("reach 2\nstart a b c d\ngoal a b b c")
        for command, floor in [("build", None), ("build 0", 0), ("build 1", 1)]:
            deeds = parse_shuffle(desk.execute(command))
            self.assertEqual(run(start, deeds, reach=2), goal)
            self.assertEqual(deeds, build(start, goal, reach=2, floor=floor))
        for floor in (2, 3, 10 ** 29):
            self.refuses(desk, (NoFloor, floor), f"build {floor}")
        self.assertEqual(self.told("", "build", "build 0"), ["-", "-"])

    def test_card_and_tidy(self):
        desk = Desk("reach 2\nstart -\ngoal -")
        for text in ("-", "pop", "swap1", "dup1 pop", "swap40 dup40", "swap2 dup1 swap1 pop swap2 pop", "pop " * 599 + "pop"):
            deeds = parse_shuffle(text)
            self.assertEqual(desk.execute(f"card {text}"), card_text(card_of(deeds)))
            self.assertEqual(desk.execute(f"tidy {text}"), shuffle_text(tidied(deeds)))
        self.assertEqual([desk.execute("card -"), desk.execute("tidy -")], ["0: -", "-"])
        self.assertEqual([desk.execute("card swap1"), desk.execute("tidy dup1 pop pop")], ["2: 2 1", "pop"])

    def test_count(self):
        desk = Desk(TEXT)
        for height in (0, 1, 3, 40, 59, 60):
            expected = str(count_targets(("a", "b", "c", "d"), height, reach=2))
            self.assertEqual(desk.execute(f"count {height}"), expected)
        self.assertEqual(desk.execute("count 3"), "58")
        for height in (61, 600, 10 ** 29):
            self.refuses(desk, (TooMany, 60), f"count {height}")
        self.assertEqual(self.told("", "count 0", "count 1"), ["1", "0"])

    def test_index_and_at(self):
        desk = Desk("reach 2\nstart a b c\ngoal b a a")
        self.assertEqual([desk.execute("index"), desk.execute("at 9"), desk.execute("at 26")], ["9", "b a a", "c c c"])
        self.assertEqual(desk.execute("at 0"), "a a a")
        for index in (27, 28, 10 ** 29):
            self.refuses(desk, (NoMember, index), f"at {index}")
        self.refuses(Desk(TEXT), (Blocked, (0, (), "edge", ("b", "c", "d"))), "index")
        self.assertEqual(self.told("", "index", "at 0"), ["0", "-"])
        self.refuses(Desk(), (NoMember, 1), "at 1")
        self.refuses(Desk("reach 2\nstart -\ngoal a"), (NoMember, 0), "at 0")

    def test_six_and_seven_different_values(self):
        six = "reach 2\nstart a b c d e f a b\ngoal a b c"
        self.assertEqual(self.told(six, "at 3"), [stack_text(target_at(tuple("abcdefab"), 3, 3, reach=2))])
        seven = Desk("reach 2\nstart a b c d e f g\ngoal a b c")
        self.refuses(seven, (TooMany, 6), "at 3")
        self.refuses(seven, (TooMany, 6), "at " + "9" * 30)

    def test_loses(self):
        for start, told in [("a b", "1: b"), ("a a", "-"), ("-", "-"), ("a", "1: a"), ("a b b", "-"), ("a b c d", "1: d")]:
            self.assertEqual(self.told(f"reach 2\nstart {start}\ngoal x", "loses"), [told])
        # Here the value is not lost, but it cannot be brought up so often any more.
        stack = ("a", "b", "c", "a")
        height, target = pop_loses(stack, reach=2)
        self.assertEqual(self.told("reach 2\nstart a b c a\ngoal x", "loses"), [f"{height}: {stack_text(target)}"])
        self.assertGreater(height, 1)

    def test_shortest(self):
        for start, goal in [("a b", "b a"), ("a b c d e", "a b c d e"), ("a b c d", "c a"), ("-", "-"), ("a", "a a a")]:
            expected = shortest(parse_stack(start), parse_stack(goal), reach=2)[0]
            self.assertEqual(self.told(f"reach 2\nstart {start}\ngoal {goal}", "shortest"), [shuffle_text(expected)])
        self.refuses(Desk("reach 2\nstart a a a a a a\ngoal a"), (TooMany, 5), "shortest")
        self.refuses(Desk("reach 2\nstart a\ngoal a a a a a a"), (TooMany, 5), "shortest")
        # More than 5 values count ahead of a block.
        self.refuses(Desk("reach 2\nstart a\ngoal b b b b b b"), (TooMany, 5), "shortest")
        self.refuses(Desk("reach 2\nstart a\ngoal b b b b b"), (Blocked, (0, (), "missing", "b")), "shortest")
        self.refuses(Desk("reach 9\nstart a b c d e\ngoal e c a b d"), (TooMany, 500), "shortest")

    def test_layout(self):
        desk = Desk(TEXT)
        self.refuses(desk, (NoMember, 0), "layout a")
        self.refuses(desk, (NoMember, 0), "layout " + " ".join(letters(13)))
        for command in ("start a b", "save y", "start b a", "save x"):
            desk.execute(command)
        told = desk.execute("layout a b").split(" ")
        self.assertEqual((told[0], sorted(told[1:])), ("layout", ["a", "b"]))
        self.assertEqual([desk.execute("layout -"), desk.execute("layout c")], ["layout -", "barred"])
        twelve = " ".join(letters(12))
        self.assertEqual(desk.execute(f"layout {twelve}"), "barred")
        self.refuses(desk, (InvalidWanted, "zz"), f"layout {twelve} zz y")
        self.refuses(desk, (InvalidWanted, "a"), "layout" + " a" * 13)
        self.refuses(desk, (InvalidWanted, "a"), "layout" + " a" * 40)
        self.refuses(desk, (ParseError, 0, 41), "layout" + " a" * 41)
        self.assertEqual(desk.execute("undo"), "save")
        desk.execute("start b c")
        desk.execute("save z")
        self.assertEqual([desk.execute("layout a"), desk.execute("layout b")], ["barred", "layout b"])

    def test_layout_takes_the_reach_of_the_problem(self):
        desk = Desk("reach 2\nstart a b c\ngoal -")
        for command in ("save x", "start b c a", "save y"):
            desk.execute(command)
        self.assertEqual(desk.execute("layout a b c").split(" ")[0], "layout")
        for command in ("start x a b c", "save z"):
            desk.execute(command)
        self.assertEqual(desk.execute("layout a b c"), "barred")
        desk.execute("reach 3")
        self.assertEqual(desk.execute("layout c b a").split(" ")[0], "layout")


class SessionTest(DeskTestCase):
    """Random commands beside a record of what they should do."""

    def test_random_sessions(self):
        chance = random.Random(341)
        for _ in range(40):
            start = tuple(chance.choice("abcd") for _ in range(chance.randrange(6)))
            first = {"reach": chance.choice([2, 3]), "start": start, "goal": start[:2], "saved": {}}
            desk = Desk(self.text(first).replace(" | ", "\n"))
            other = Desk(self.text(first).replace(" | ", "\n"))
            now, past = first, []
            for _ in range(30):
                now = self.one_command(chance, desk, now, past)
                self.check(desk, now)
            while past:
                name, now = past.pop()
                self.assertEqual(desk.execute("undo"), name)
                self.check(desk, now)
            self.assertEqual(now, first)
            self.refuses(desk, (NothingToUndo, 1), "undo")
            self.check(other, first)

    def text(self, now):
        return f"reach {now['reach']} | start {words_of(now['start'])} | goal {words_of(now['goal'])}"

    def one_command(self, chance, desk, now, past):
        """Execute one command that changes the desk, and return the record behind it."""
        stack = tuple(chance.choice("abcd") for _ in range(chance.randrange(6)))
        name = chance.choice(["reach", "start", "goal", "run", "solve", "save", "save", "load", "undo", "wrong"])
        new = copy.deepcopy(now)
        if name == "wrong":
            for command in ("reach 41", "start A", "goal a  b", "save a b", "load zz", "run dup40 swap41", "count 61", "x"):
                self.assertIsNotNone(raised_by(desk.execute, command))
            return now
        if name == "undo":
            if not past:
                self.refuses(desk, (NothingToUndo, 1), "undo")
                return now
            expected, before = past.pop()
            self.assertEqual(desk.execute("undo"), expected)
            return before
        told, expected = name, "ok"
        if name == "reach":
            new["reach"] = chance.choice([2, 3, 4])
            told += f" {new['reach']}"
        elif name in ("start", "goal"):
            new[name] = stack
            told += " " + words_of(stack)
        elif name == "run":
            told += " " + chance.choice(["pop", "dup1 dup2", "swap1 pop", "-", "dup3"])
            deeds = parse_shuffle(told[4:])
            if raised_by(run, now["start"], deeds, reach=now["reach"]):
                error = raised_by(run, now["start"], deeds, reach=now["reach"])
                self.refuses(desk, (Fault, error.index, error.instruction), told)
                return now
            new["start"] = run(now["start"], deeds, reach=now["reach"])
            expected = words_of(new["start"])
        elif name == "solve":
            if not reached_by_fact(now["start"], now["goal"], now["reach"]):
                certificate = decide(now["start"], now["goal"], reach=now["reach"])[1]
                self.refuses(desk, (Blocked, certificate), told)
                return now
            new["start"], expected = now["goal"], None
        elif name == "save":
            key = chance.choice("mnopqrs")
            told += " " + key
            if key not in now["saved"] and len(now["saved"]) == 6:
                self.refuses(desk, (TooMany, 6), told)
                return now
            new["saved"][key] = now["start"]
        elif name == "load":
            key = chance.choice("mnopqrs")
            told += " " + key
            if key not in now["saved"]:
                self.refuses(desk, (NoName, key), told)
                return now
            new["start"] = now["saved"][key]
        output = desk.execute(told)
        if expected is None:
            self.assertEqual(run(now["start"], parse_shuffle(output), reach=now["reach"]), now["goal"])
        else:
            self.assertEqual(output, expected)
        past.append((name, now))
        return new

    def check(self, desk, now):
        """Check that all that the desk tells belongs to the record."""
        start, goal, reach = now["start"], now["goal"], now["reach"]
        problem = Problem(start, goal, reach=reach)
        word, found = decide(start, goal, reach=reach)
        enough = least_reach(start, goal)
        loses = pop_loses(start, reach=reach) if start else None
        for command, expected in [
            ("problem", str(problem).replace("\n", " | ")), ("problem", self.text(now)), ("saved", words_of(sorted(now["saved"]))),
            ("answer", f"{word} {found if word == 'reached' else certificate_text(found)}"),
            ("depth", str(depth_of(goal, reach=reach))), ("least", str(enough[0]) if enough else "-"),
            ("floors", words_of(floors(start, goal, reach=reach))), ("count 4", str(count_targets(start, 4, reach=reach))),
            ("loses", f"{loses[0]}: {words_of(loses[1])}" if loses else "-"),
        ]:
            self.assertEqual(desk.execute(command), expected)
        if word == "reached":
            self.assertEqual(run(start, parse_shuffle(desk.execute("build")), reach=reach), goal)
            index = target_index(start, goal, reach=reach)
            self.assertEqual([desk.execute("index"), desk.execute(f"at {index}")], [str(index), words_of(goal)])
        else:
            for command in ("build", "index", "solve", "build 0"):
                self.assertEqual(self.raises(desk.execute, command), (Blocked, found))
        stacks = [now["saved"][name] for name in sorted(now["saved"])]
        if not stacks:
            self.assertEqual(self.raises(desk.execute, "layout a b"), (NoMember, 0))
            return
        told = desk.execute("layout a b").split(" ")
        self.assertEqual(told[0], layout_for(*stacks, wanted=("a", "b"), reach=reach)[0])
        if told[0] == "layout":
            layout = parse_stack(" ".join(told[1:]))
            self.assertLessEqual({"a", "b"}, set(layout))
            self.assertTrue(all(reached_by_fact(stack, layout, reach) for stack in stacks))


class TwoDesksTest(DeskTestCase):
    def test_apart(self):
        one, other = Desk(TEXT), Desk(TEXT)
        for command in ("save x", "run pop", "reach 3"):
            one.execute(command)
        self.assertEqual([other.execute("problem"), other.execute("saved")], [TEXT.replace("\n", " | "), "-"])
        self.refuses(other, (NothingToUndo, 1), "undo")


if __name__ == "__main__":
    unittest.main()
