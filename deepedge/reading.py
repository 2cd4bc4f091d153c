"""Reading the lines and the words of texts."""

from deepedge.errors import ParseError
from deepedge.instructions import MOST_INSTRUCTIONS, MOST_NUMBER
from deepedge.values import LEAST_REACH, MOST_REACH, wrong_cell

# No number of a text is longer, and Python refuses to read very long ones.
MOST_DIGITS = 30


def text_words(text):
    """Return the list of the words of a text, any value, that has one line."""
    if not isinstance(text, str):
        raise ParseError(0, 0)
    return text.split(" ")


def text_lines(text):
    """Return the list of the lines of a text, any value, each as the list of its words."""
    if not isinstance(text, str):
        raise ParseError(0, 0)
    return [line.split(" ") for line in text.split("\n")]


def words_behind(lines, line, name):
    """Return the list of the words, one or more, behind the name that the line with this index begins with."""
    if line == len(lines):
        raise ParseError(line, 0)
    first, *rest = lines[line]
    if first != name:
        raise ParseError(line, 0)
    if rest == []:
        raise ParseError(line, 1)
    return rest


def number_line(lines, line, name, least, most):
    """Return the number from `least` to `most` that stands behind the name in the line with this index."""
    word, *more = words_behind(lines, line, name)
    number = written_number(word)
    if number is None or not least <= number <= most:
        raise ParseError(line, 1)
    if more != []:
        raise ParseError(line, 2)
    return number


def reach_line(lines, line):
    """Return the reach that the line with this index tells."""
    return number_line(lines, line, "reach", LEAST_REACH, MOST_REACH)


def stack_line(lines, line, name):
    """Return the stack that stands behind the name in the line with this index."""
    return stack_of_words(words_behind(lines, line, name), line, 1)


def stack_of_words(words, line, before):
    """Return the stack that the words of the line tell, which have so many others before them."""
    if words == ["-"]:
        return ()
    index = wrong_cell(words)
    if index is not None:
        raise ParseError(line, before + index)
    return tuple(words)


def shuffle_of_words(words, before):
    """Return the shuffle that the words of line 0 tell, which have so many others before them."""
    if words == ["-"]:
        return ()
    deeds = [written_instruction(word) for word in words]
    for index, deed in enumerate(deeds):
        if index == MOST_INSTRUCTIONS or deed is None:
            raise ParseError(0, before + index)
    return tuple(deeds)


def written_number(word):
    """Return the number that the word tells, or None."""
    if not 1 <= len(word) <= MOST_DIGITS or not all(["0" <= digit <= "9" for digit in word]):
        return None
    if word[0] == "0" and word != "0":
        return None
    return int(word)


def written_instruction(word):
    """Return the instruction that the word tells, or None."""
    if word == "pop":
        return ("pop",)
    for name in ("dup", "swap"):
        number = written_number(word[len(name):])
        if word.startswith(name) and number is not None and 1 <= number <= MOST_NUMBER:
            return (name, number)
    return None
