"""[45], [46], [52]: what joins and loops write and read."""

import itertools
import random
import unittest

from samples import STRANGE, letters, raised_by

from deepedge.errors import ParseError
from deepedge.joins import Join, Loop

JOIN = [["reach", "3"], ["wanted", "a", "b"], ["stack", "x", "a", "b"], ["stack", "-"], ["stack", "b"]]
LOOP = [["reach", "12"], ["uses", "2"], ["wanted", "a", "b", "c"], ["stack", "x", "a", "b"], ["stack", "c"]]

# No word of any line.
WRONG = ["", "A", "a1", "abcdefghi", "-3", "+3", "03", "1", "41", "3.", "a-", "--", "Reach", "~", "1" * 5000]


def text_of(lines):
    return "\n".join(" ".join(words) for words in lines)


class JoinTextTestCase(unittest.TestCase):
    def place(self, kind, text):
        """The line and the word that `read` names as wrong."""
        error = raised_by(kind.read, text)
        self.assertIs(type(error), ParseError, text[:200] if isinstance(text, str) else text)
        return (error.line, error.word)

    def with_line(self, kind, line, words):
        """The text of a join or a loop with other words in one line."""
        lines = list(JOIN if kind is Join else LOOP)
        lines[line] = words.split(" ")
        return text_of(lines)


class WrittenTest(JoinTextTestCase):
    def test_joins(self):
        self.assertEqual(str(Join(("a", "b"), wanted=("b", "a"), reach=3)), "reach 3\nwanted a b\nstack a b")
        self.assertEqual(
            str(Join(("x", "a", "b"), (), wanted=("b", "a", "b"), reach=3)), "reach 3\nwanted a b\nstack x a b\nstack -",
        )
        self.assertEqual(str(Join(())), "reach 16\nwanted -\nstack -")
        self.assertEqual(str(Loop(("a",), (), wanted=("a",), uses=8)), "reach 16\nuses 8\nwanted a\nstack a\nstack -")

    def test_short_forms(self):
        self.assertEqual(
            [repr(Join(())), repr(Join((), ())), repr(Loop((), wanted=("a",)))], ["Join(1 stacks)", "Join(2 stacks)", "Loop(1 stacks)"]
        )

    def test_read_back(self):
        chance = random.Random(261)
        for _ in range(300):
            names = letters(chance.choice([1, 5, 12]))
            stacks = [tuple(chance.choice(names) for _ in range(chance.choice([0, 1, 5, 40]))) for _ in range(chance.randrange(1, 7))]
            wanted = tuple(chance.sample(names, chance.randrange(len(names) + 1)))
            reach = chance.choice([2, 9, 10, 40])
            joins = [Join(*stacks, wanted=wanted, reach=reach)]
            if wanted:
                joins.append(Loop(*stacks, wanted=wanted, reach=reach, uses=chance.randrange(1, 9)))
            for join in joins:
                again = type(join).read(str(join))
                self.assertIs(type(again), type(join))
                self.assertEqual(again, join)
                self.assertEqual(str(again), str(join))
                self.assertEqual(type(join).read(text=str(join)), join)

    def test_the_other_class(self):
        self.assertEqual(self.place(Loop, text_of(JOIN)), (1, 0))
        self.assertEqual(self.place(Join, text_of(LOOP)), (1, 0))

    def test_limits(self):
        for reach in ("2", "16", "40"):
            self.assertEqual(str(Join.read(self.with_line(Join, 0, f"reach {reach}"))).split("\n")[0], f"reach {reach}")
        for uses in range(1, 9):
            self.assertEqual(Loop.read(self.with_line(Loop, 1, f"uses {uses}")).uses, uses)
        twelve = " ".join(letters(12))
        self.assertEqual(Join.read(self.with_line(Join, 1, f"wanted {twelve}")).wanted, letters(12))
        forty = " ".join(letters(40))
        self.assertEqual(Join.read(self.with_line(Join, 4, f"stack {forty}")).stacks[2], letters(40))
        six = text_of(JOIN[:2] + [["stack", "a"]] * 6)
        self.assertEqual(len(Join.read(six)), 6)


class WrongTextTest(JoinTextTestCase):
    def test_no_strings(self):
        for thing in STRANGE + [("a",), JOIN]:
            for kind in (Join, Loop):
                self.assertEqual(self.place(kind, thing), (0, 0))

    def test_the_line_of_the_reach(self):
        for kind in (Join, Loop):
            for words, word in [
                ("", 0), ("reach", 1), ("reach ", 1), ("reach 1", 1), ("reach 41", 1), ("reach 0", 1), ("reach 03", 1),
                ("reach +3", 1), ("reach -3", 1), ("reach 3 ", 2), ("reach 3 3", 2), ("reach  3", 1), (" reach 3", 0),
                ("Reach 3", 0), ("reach3", 0), ("reach a", 1), ("reach -", 1), ("3", 0), ("reach 1 1", 1), ("reach 3.", 1),
                ("reach " + "3" * 5000, 1), ("wanted 3", 0), ("reach: 3", 0), ("uses 3", 0),
            ]:
                self.assertEqual(self.place(kind, self.with_line(kind, 0, words)), (0, word), words)

    def test_the_line_of_the_uses(self):
        for words, word in [
            ("", 0), ("uses", 1), ("uses ", 1), ("uses 0", 1), ("uses 9", 1), ("uses 02", 1), ("uses +2", 1), ("uses 10", 1),
            ("uses 2 ", 2), ("uses 2 2", 2), ("uses  2", 1), (" uses 2", 0), ("Uses 2", 0), ("use 2", 0), ("uses a", 1),
            ("uses -", 1), ("uses -1", 1), ("uses 0 2", 1), ("reach 2", 0), ("uses " + "2" * 5000, 1),
        ]:
            self.assertEqual(self.place(Loop, self.with_line(Loop, 1, words)), (1, word), words)

    def test_the_line_of_the_wanted_values(self):
        twelve = " ".join(letters(12))
        for kind, line in [(Join, 1), (Loop, 2)]:
            for words, word in [
                ("", 0), ("wanted", 1), ("wanted ", 1), ("wanted b a", 2), ("wanted a a", 2), ("wanted a c b", 3), ("wanted A", 1),
                ("wanted a ", 2), ("wanted a  b", 2), ("wanted  a", 1), (" wanted a", 0), ("Wanted a", 0), ("want a", 0),
                ("wanted - a", 1), ("wanted a -", 2), ("wanted - -", 1), ("wanted - ", 1), ("wanted -a", 1), ("wanted 3", 1),
                ("wanted abcdefghi", 1), ("wanted b a C", 2), ("wanted B a", 1), ("stack a", 0),
                (f"wanted {twelve} z", 13), (f"wanted {twelve} a", 13), (f"wanted {twelve} A", 13), (f"wanted {twelve} ", 13),
                (f"wanted {twelve} -", 13), (f"wanted b a {twelve}", 2),
            ]:
                self.assertEqual(self.place(kind, self.with_line(kind, line, words)), (line, word), words)
        self.assertEqual(Join.read(self.with_line(Join, 1, "wanted -")).wanted, ())
        self.assertEqual(self.place(Loop, self.with_line(Loop, 2, "wanted -")), (2, 1))

    def test_the_lines_of_the_stacks(self):
        forty = " ".join(letters(40))
        for kind, first in [(Join, 2), (Loop, 3)]:
            for line in (first, first + 1):
                for words, word in [
                    ("", 0), ("stack", 1), ("stack ", 1), ("stack a ", 2), ("stack a  b", 2), ("stack  a", 1), (" stack a", 0),
                    ("Stack a", 0), ("stacks a", 0), ("stack - a", 1), ("stack a -", 2), ("stack - -", 1), ("stack - ", 1),
                    ("stack A", 1), ("stack a b3", 2), ("stack abcdefghi", 1), ("wanted a", 0), ("stack 3", 1),
                    (f"stack {forty} a", 41), (f"stack {forty} A", 41), (f"stack {forty} ", 41), (f"stack {forty} -", 41),
                    (f"stack {forty[:-1]}A a", 40),
                ]:
                    self.assertEqual(self.place(kind, self.with_line(kind, line, words)), (line, word), words)

    def test_missing_lines(self):
        for kind, lines in [(Join, JOIN), (Loop, LOOP)]:
            first = 2 if kind is Join else 3
            for count in range(1, first + 1):
                self.assertEqual(self.place(kind, text_of(lines[:count])), (count, 0))
            kind.read(text_of(lines[:first + 1]))
            # A line left out.
            for line in range(first):
                self.assertEqual(self.place(kind, text_of(lines[:line] + lines[line + 1:])), (line, 0))
            # An empty line, also at the end.
            for line in range(len(lines) + 1):
                self.assertEqual(self.place(kind, text_of(lines[:line] + [[""]] + lines[line:])), (line, 0))
            self.assertEqual(self.place(kind, ""), (0, 0))
            self.assertEqual(self.place(kind, "\n"), (0, 0))

    def test_repeated_lines(self):
        for kind, lines in [(Join, JOIN), (Loop, LOOP)]:
            first = 2 if kind is Join else 3
            for line in range(first):
                self.assertEqual(self.place(kind, text_of(lines[:line + 1] + lines[line:])), (line + 1, 0))
            kind.read(text_of(lines + lines[-1:]))

    def test_a_seventh_stack(self):
        for kind, lines in [(Join, JOIN), (Loop, LOOP)]:
            first = 2 if kind is Join else 3
            six = lines[:first] + [["stack", "a"]] * 6
            kind.read(text_of(six))
            for seventh in (["stack", "a"], ["stack", "-"], ["stack", "A"], ["stack"], [""], ["x"]):
                self.assertEqual(self.place(kind, text_of(six + [seventh])), (first + 6, 0))
                self.assertEqual(self.place(kind, text_of(six + [seventh, ["x"]])), (first + 6, 0))
            six[first + 5] = ["stack", "a", "A"]
            self.assertEqual(self.place(kind, text_of(six + [["stack", "a"]])), (first + 5, 2))


class MistakeTest(JoinTextTestCase):
    def test_each_word(self):
        for kind, lines in [(Join, JOIN), (Loop, LOOP)]:
            for line, words in enumerate(lines):
                for word in range(len(words)):
                    for wrong in WRONG:
                        if (words[0], word, wrong) != ("uses", 1, "1"):
                            changed = " ".join(words[:word] + [wrong] + words[word + 1:])
                            self.assertEqual(self.place(kind, self.with_line(kind, line, changed)), (line, word), changed[:50])

    def test_each_line_too_short_and_too_long(self):
        for kind, lines in [(Join, JOIN), (Loop, LOOP)]:
            for line, words in enumerate(lines):
                self.assertEqual(self.place(kind, self.with_line(kind, line, words[0])), (line, 1))
                self.assertEqual(self.place(kind, self.with_line(kind, line, "")), (line, 0))
                word = 1 if words[1] == "-" else len(words)
                for more in ("", "-", "A", "3"):
                    self.assertEqual(self.place(kind, self.with_line(kind, line, " ".join(words + [more]))), (line, word))

    def test_two_mistakes(self):
        chance = random.Random(262)
        for kind, lines in [(Join, JOIN), (Loop, LOOP)]:
            places = [(line, word) for line, words in enumerate(lines) for word in range(len(words))]
            for one, other in itertools.combinations(places, 2):
                for _ in range(4):
                    changed = [list(words) for words in lines]
                    changed[one[0]][one[1]], changed[other[0]][other[1]] = chance.choice(WRONG), chance.choice(WRONG)
                    if changed[1][:2] == ["uses", "1"]:
                        continue
                    self.assertEqual(self.place(kind, text_of(changed)), one)
                    changed[one[0]][one[1]] = lines[one[0]][one[1]]
                    self.assertEqual(self.place(kind, text_of(changed)), other)

    def test_a_wrong_word_ahead_of_an_early_end(self):
        for kind in (Join, Loop):
            self.assertEqual(self.place(kind, self.with_line(kind, 0, "reaches")), (0, 0))
            self.assertEqual(self.place(kind, "wanted"), (0, 0))
            self.assertEqual(self.place(kind, "reach"), (0, 1))
            # The early end of a line counts ahead of a later line.
            self.assertEqual(self.place(kind, "reach\nx"), (0, 1))


if __name__ == "__main__":
    unittest.main()
