"""[47], [51], [52], [54]: reading written forms."""

import itertools
import random
import unittest

from samples import STRANGE, instructions, letters, raised_by

from deepedge.errors import ParseError
from deepedge.formatting import card_text, code_text, shuffle_text, stack_text
from deepedge.machine import run
from deepedge.parsing import parse_card, parse_code, parse_shuffle, parse_stack

PARSERS = (parse_stack, parse_shuffle, parse_card, parse_code)

# No word of any form.
WRONG = [
    "", "A", "aB", "a1", "abcdefghi", "a-b", "a_b", "a.b", "_", "-a", "--", "+", "3", "dup", "swap", "dup0", "swap0",
    "dup41", "swap41", "dup01", "dup+1", "dup-1", "dup1.", "dup1x", "Dup1", "DUP1", "pop1", "popp", "POP",
    "dup_1", "swap" + "1" * 5000, "dup" + "9" * 20, "max/", "/2", "max/4", "max/-1", "max/02", "max/2/", "Max/2",
    "max//2", "code/1", "stack/0", "reach/2", "abcdefghi/1", "max/a", "max/" + "1" * 5000, "a/b/1", "3:", ":", "\t", "a\t",
]


class ParsingTestCase(unittest.TestCase):
    def place(self, parser, text):
        """The line and the word that the parser names as wrong."""
        error = raised_by(parser, text)
        self.assertIs(type(error), ParseError, text[:90] if isinstance(text, str) else text)
        return (error.line, error.word)

    def check_two_mistakes(self, parser, words, wrong_words):
        """Of two wrong words the first one is named, and the other one when the first one is mended."""
        parser(" ".join(words))
        for first, second in itertools.combinations(range(len(words)), 2):
            for one, other in itertools.product(wrong_words, repeat=2):
                both = list(words)
                both[first], both[second] = one, other
                self.assertEqual(self.place(parser, " ".join(both)), (0, first), both)
                both[first] = words[first]
                self.assertEqual(self.place(parser, " ".join(both)), (0, second), both)


class AnyTextTest(ParsingTestCase):
    def test_no_strings(self):
        for thing in STRANGE + [("a",), 3, b"a", ["-"]]:
            if not isinstance(thing, str):
                for parser in PARSERS:
                    self.assertEqual(self.place(parser, thing), (0, 0))

    def test_strange_strings(self):
        for thing in STRANGE:
            if isinstance(thing, str) and thing != "-":
                for parser in PARSERS:
                    # The second word is missing in the value "a b" as a card, and so on.
                    if parser is parse_stack and thing == "a b":
                        self.assertEqual(parse_stack(thing), ("a", "b"))
                    else:
                        self.assertEqual(self.place(parser, thing), (0, 0), (parser, thing[:20]))

    def test_nothing(self):
        self.assertEqual([parse_stack("-"), parse_shuffle("-"), parse_code("-")], [(), (), ()])
        self.assertEqual(self.place(parse_card, "-"), (0, 0))
        for parser in PARSERS:
            for text in ("", " ", "  ", " -", "\n", "- -", "- ", "-\n", "--", "\n-"):
                self.assertEqual(self.place(parser, text), (0, 0), text)

    def test_by_name(self):
        self.assertEqual([parse_stack(text="a b"), parse_shuffle(text="pop")], [("a", "b"), (("pop",),)])
        self.assertEqual([parse_card(text="1: 1"), parse_code(text="pop/1")], [(1, (1,)), (("call", "pop", 1),)])


class StackTest(ParsingTestCase):
    def test_stacks(self):
        for text in ("a", "a b", "abcdefgh z a a", "pop dup swap", "reach stack code"):
            self.assertEqual(parse_stack(text), tuple(text.split()))
            self.assertEqual(stack_text(parse_stack(text)), text)

    def test_wrong_words(self):
        for wrong in WRONG + ["-", "\n", "a\n", "\na", "a\nb", "dup3", "max/2"]:
            if wrong in ("dup", "swap", "popp"):
                continue
            for text, word in [(wrong, 0), (f"{wrong} a", 0), (f"a {wrong}", 1), (f"a b {wrong} c", 2), (f"{wrong} {wrong}", 0)]:
                if text != "-":
                    self.assertEqual(self.place(parse_stack, text), (0, word), text[:50])

    def test_spaces(self):
        for text, word in [(" a", 0), ("a ", 1), ("a  b", 1), ("a b  c", 2), ("a b ", 2), ("a  ", 1), ("- a", 0), ("a -", 1)]:
            self.assertEqual(self.place(parse_stack, text), (0, word))

    def test_newlines(self):
        for text, word in [("a\n", 0), ("a b\n", 1), ("a b\nc", 1), ("a\nb c", 0), ("-\n", 0), ("a \nb", 1), ("a\n b", 0)]:
            self.assertEqual(self.place(parse_stack, text), (0, word))

    def test_forty_values(self):
        self.assertEqual(parse_stack(" ".join(letters(40))), letters(40))
        for text, word in [("a " * 40 + "a", 40), ("a " * 40 + "A", 40), ("a " * 40, 40), ("a " * 39, 39), ("a " * 39 + "A a", 39)]:
            self.assertEqual(self.place(parse_stack, text), (0, word))
        high = stack_text(run(("a",), [("dup", 1)] * 60))
        self.assertEqual(self.place(parse_stack, high), (0, 40))

    def test_two_mistakes(self):
        self.check_two_mistakes(parse_stack, ["a", "b", "cd", "a"], ["", "A", "-", "b\n"])


class ShuffleTest(ParsingTestCase):
    def test_shuffles(self):
        for deed in instructions(40):
            word = deed[0] + (str(deed[1]) if len(deed) == 2 else "")
            self.assertEqual(parse_shuffle(word), (deed,))
            self.assertEqual(parse_shuffle(f"pop {word} dup1"), (("pop",), deed, ("dup", 1)))

    def test_wrong_words(self):
        for wrong in WRONG + ["-", "\n", "pop\n", "\npop", "pop\npop", "a", "max/2", "dup1\n", "dup3a", "push1", "popdup1"]:
            for text, word in [(wrong, 0), (f"{wrong} pop", 0), (f"pop {wrong}", 1), (f"dup1 swap2 {wrong} pop", 2)]:
                if text != "-":
                    self.assertEqual(self.place(parse_shuffle, text), (0, word), text[:50])

    def test_spaces(self):
        for text, word in [(" pop", 0), ("pop ", 1), ("pop  pop", 1), ("dup 1", 0), ("pop dup 1", 1), ("- pop", 0), ("pop -", 1)]:
            self.assertEqual(self.place(parse_shuffle, text), (0, word))

    def test_600_instructions(self):
        self.assertEqual(parse_shuffle("pop " * 599 + "dup2"), (("pop",),) * 599 + (("dup", 2),))
        for text, word in [
            ("pop " * 600 + "pop", 600), ("pop " * 600 + "x", 600), ("pop " * 600, 600), ("pop " * 700 + "x", 600),
            ("pop " * 599 + "x pop", 599), ("pop " * 599, 599),
        ]:
            self.assertEqual(self.place(parse_shuffle, text), (0, word))
        self.assertEqual(self.place(parse_shuffle, shuffle_text((("pop",),) * 601)), (0, 600))

    def test_two_mistakes(self):
        self.check_two_mistakes(parse_shuffle, ["pop", "dup2", "swap40", "pop"], ["", "dup0", "-", "a", "swap1\n"])


class CardTest(ParsingTestCase):
    def test_cards(self):
        for text, card in [
            ("2: 2 1", (2, (2, 1))), ("0: -", (0, ())), ("3: -", (3, ())), ("1: 1 1 1", (1, (1, 1, 1))),
            ("2000: 2000 1 999", (2000, (2000, 1, 999))), ("10: 10", (10, (10,))),
        ]:
            self.assertEqual(parse_card(text), card)
            self.assertEqual(card_text(card), text)

    def test_wrong_depths(self):
        for first in [
            "", ":", "3", "03:", "00:", "+3:", "-3:", "-0:", "3.:", "3::", "3;", ":3", "a:", "2001:", "9999:",
            "1" * 40 + ":", "1" * 5000 + ":", "3:\n", "\n3:", "3\n:", "3:1", "0x1:", "1_0:", "1e1:", "x3:", "3:x", "-:", "-",
        ]:
            for rest in (" 1", " -", "", " x", " "):
                self.assertEqual(self.place(parse_card, first + rest), (0, 0), (first, rest))

    def test_wrong_numbers(self):
        for wrong in WRONG + ["0", "4", "03", "00", "+1", "-1", "1.", "1\n", "\n1", "1\n2", "1" * 5000, "1_0", "-", "a", "1:"]:
            if wrong == "3":
                continue
            for text, word in [(f"3: {wrong} 1", 1), (f"3: 1 {wrong}", 2), (f"3: 3 2 {wrong} 1", 3)]:
                self.assertEqual(self.place(parse_card, text), (0, word), text[:50])
            if wrong != "-":
                self.assertEqual(self.place(parse_card, f"3: {wrong}"), (0, 1))
        self.assertEqual(self.place(parse_card, "0: 0"), (0, 1))
        self.assertEqual(self.place(parse_card, "0: 1"), (0, 1))

    def test_missing_and_empty(self):
        for text, word in [
            ("3:", 1), ("0:", 1), ("3: ", 1), ("3:  1", 1), ("3: 1 ", 2), ("3: 1  2", 2), (" 3: 1", 0), ("3: - 1", 1),
            ("3: 1 -", 2), ("3: - -", 1), ("3: - ", 1), ("3: -\n", 1), ("3: 1\n", 1), ("3: 1 2\n3: 1", 2), ("3:\n1", 0),
        ]:
            self.assertEqual(self.place(parse_card, text), (0, word), text)

    def test_limits(self):
        self.assertEqual(parse_card("2000:" + " 2000" * 2000), (2000, (2000,) * 2000))
        self.assertEqual(parse_card("1:" + " 1" * 2000), (1, (1,) * 2000))
        for text, word in [
            ("1:" + " 1" * 2001, 2001), ("1:" + " 1" * 2000 + " x", 2001), ("1:" + " 1" * 2000 + " ", 2001),
            ("1:" + " 1" * 1999 + " 2 1", 2000), ("2000: 2001", 1), ("2000: 2000 2001", 2), ("1:" + " 1" * 2500 + " x", 2001),
        ]:
            self.assertEqual(self.place(parse_card, text), (0, word))

    def test_two_mistakes(self):
        self.check_two_mistakes(parse_card, ["3:", "2", "1", "3"], ["", "4.:", "-", "a", "4", "1\n"])


class CodeTest(ParsingTestCase):
    def test_code(self):
        for text, code in [
            ("pop neg/1\nswap1", (("pop",), ("call", "neg", 1), ("swap", 1))), ("max/0", (("call", "max", 0),)),
            ("max/2\nmax/2", (("call", "max", 2),) * 2), ("pop pop", (("pop",),) * 2),
            ("pop/1\ndup/2\ndup2 swap/3", (("call", "pop", 1), ("call", "dup", 2), ("dup", 2), ("call", "swap", 3))),
            ("call/1", (("call", "call", 1),)), ("swap40 abcdefgh/3", (("swap", 40), ("call", "abcdefgh", 3))),
        ]:
            self.assertEqual(parse_code(text), code)
            self.assertEqual(code_text(code), text)

    def test_no_limit(self):
        self.assertEqual(parse_code("pop " * 700 + "f/0"), (("pop",),) * 700 + (("call", "f", 0),))
        self.assertEqual(parse_code("f/0\n" * 700 + "pop"), (("call", "f", 0),) * 700 + (("pop",),))

    def test_wrong_words(self):
        for wrong in WRONG + ["-", "a", "max/2a"]:
            for text, place in [
                (f"{wrong} pop", (0, 0)), (f"pop {wrong}", (0, 1)), (f"pop {wrong} max/2", (0, 1)),
                (f"max/2\n{wrong}", (1, 0)), (f"max/2\npop {wrong}", (1, 1)), (f"max/2\n{wrong} f/1\n{wrong}", (1, 0)),
                (f"{wrong}\nf/1", (0, 0)), (f"f/1\npop {wrong} g/2\npop", (1, 1)), (f"max/2 {wrong}", (0, 1)),
            ]:
                self.assertEqual(self.place(parse_code, text), place, text[:50])

    def test_words_behind_a_call(self):
        for word in ("pop", "dup1", "max/2", "x", "", "-", "max/4"):
            for text, place in [
                (f"max/2 {word}", (0, 1)), (f"pop max/2 {word}", (0, 2)), (f"max/2 {word}\nf/1", (0, 1)),
                (f"f/1\nmax/2 {word}", (1, 1)), (f"f/1\npop g/0 {word}\nx", (1, 2)), (f"max/2 {word} f/1", (0, 1)),
            ]:
                self.assertEqual(self.place(parse_code, text), place)

    def test_lines_without_a_call(self):
        for text, place in [
            ("pop\nneg/1", (0, 1)), ("pop pop\nneg/1", (0, 2)), ("neg/1\npop\nneg/1", (1, 1)), ("pop\npop", (0, 1)),
            ("pop\n", (0, 1)), ("pop\nx", (0, 1)), ("pop x\nneg/1", (0, 1)), ("neg/1\ndup1 dup2 dup3\n\n", (1, 3)),
        ]:
            self.assertEqual(self.place(parse_code, text), place, text)

    def test_empty_lines(self):
        for text, place in [
            ("f/1\n", (1, 0)), ("\nf/1", (0, 0)), ("f/1\n\nf/1", (1, 0)), ("f/1\ng/1\n", (2, 0)), ("\n\n", (0, 0)),
            ("-\nf/1", (0, 0)), ("-\n-", (0, 0)), ("f/1\n-", (1, 0)), ("f/1\n- pop", (1, 0)), ("- pop", (0, 0)),
            ("f/1\n ", (1, 0)), ("f/1 \ng/1", (0, 1)), ("f/1\n pop", (1, 0)), ("f/1\npop ", (1, 1)), ("pop  f/1", (0, 1)),
        ]:
            self.assertEqual(self.place(parse_code, text), place, text)

    def test_two_mistakes(self):
        chance = random.Random(241)
        lines = [["pop", "f/1"], ["g/0"], ["dup2", "swap3", "max/2"], ["pop", "dup1"]]
        text = "\n".join(" ".join(words) for words in lines)
        parse_code(text)
        places = [(line, word) for line, words in enumerate(lines) for word in range(len(words))]
        for one, other in itertools.combinations(places, 2):
            for _ in range(6):
                changed = [list(words) for words in lines]
                for line, word in (one, other):
                    changed[line][word] = chance.choice(["", "-", "A", "pop1", "f/4", "dup0", "dup1x"])
                self.assertEqual(self.place(parse_code, "\n".join(" ".join(words) for words in changed)), one)
                changed[one[0]][one[1]] = lines[one[0]][one[1]]
                self.assertEqual(self.place(parse_code, "\n".join(" ".join(words) for words in changed)), other)

    def test_words_left_out_and_repeated(self):
        lines = [["pop", "f/1"], ["g/0"], ["dup2", "swap3", "max/2"], ["pop", "dup1"]]
        for line in range(3):
            shorter = [list(words) for words in lines]
            shorter[line].pop()
            # Of a line that had one word, an empty one is left.
            place = (line, max(0, len(lines[line]) - 1))
            self.assertEqual(self.place(parse_code, "\n".join(" ".join(words) for words in shorter)), place)
            longer = [list(words) for words in lines]
            longer[line].append(lines[line][-1])
            place = (line, len(lines[line]))
            self.assertEqual(self.place(parse_code, "\n".join(" ".join(words) for words in longer)), place)


if __name__ == "__main__":
    unittest.main()
