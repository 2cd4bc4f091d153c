"""Reading the written forms of stacks, shuffles, cards and code."""

from deepedge.cards import MOST_DEPTH, MOST_NUMBERS
from deepedge.errors import ParseError
from deepedge.reading import (
    shuffle_of_words, stack_of_words, text_lines, text_words, written_instruction, written_number,
)
from deepedge.steps import is_call


def parse_stack(text):
    """Return the stack that the text, any value, tells."""
    return stack_of_words(text_words(text), 0, 0)


def parse_shuffle(text):
    """Return the shuffle that the text, any value, tells."""
    return shuffle_of_words(text_words(text), 0)


def parse_card(text):
    """Return the card that the text, any value, tells."""
    first, *rest = text_words(text)
    depth = written_number(first[:-1])
    if not first.endswith(":") or depth is None or depth > MOST_DEPTH:
        raise ParseError(0, 0)
    if rest == []:
        raise ParseError(0, 1)
    if rest == ["-"]:
        return (depth, ())
    numbers = [written_number(word) for word in rest]
    for index, number in enumerate(numbers):
        if index == MOST_NUMBERS or number is None or not 1 <= number <= depth:
            raise ParseError(0, index + 1)
    return (depth, tuple(numbers))


def parse_code(text):
    """Return the code that the text, any value, tells."""
    lines = text_lines(text)
    if lines == [["-"]]:
        return ()
    code = []
    for line, words in enumerate(lines):
        code.extend(_line_items(words, line))
        # A word is missing: the call that each line but the last one ends with.
        if line < len(lines) - 1 and not is_call(code[-1]):
            raise ParseError(line, len(words))
    return tuple(code)


def _line_items(words, line):
    """Return the list of the instructions of a line and the call that may stand at its end."""
    items = []
    for index, word in enumerate(words):
        item = _written_item(word)
        if item is None or index > 0 and is_call(items[-1]):
            raise ParseError(line, index)
        items.append(item)
    return items


def _written_item(word):
    """Return the instruction or the call that the word tells, or None."""
    name, _, count = word.partition("/")
    call = ("call", name, written_number(count))
    return call if is_call(call) else written_instruction(word)
