"""Counting, numbering and listing what a stack can be turned into."""

from math import comb

from deepedge.errors import Blocked, NoMember
from deepedge.floors import common_prefix
from deepedge.judge import decide
from deepedge.values import is_integer
from deepedge.words import covering_table


class Counts:
    """Counts the targets of a stack by their beginnings, at all heights up to a given one.

    A target has at most as many different values as the reach, or exactly one more from its depth on ([7]). In the
    second case the value in the cell of the depth occurs once from there on, all the others occur above it, and the
    edge, which is the value of the stack in this cell, is among them all.
    """

    def __init__(self, stack, height, reach):
        self._cells = stack
        self._bound = reach
        self._tops = _last_indexes(stack)
        self._varied = [len(set(stack[index:])) for index in range(len(stack))]
        # For each number of cells that are left.
        self._narrow = _narrow_table(height, len(self._tops), min(reach, len(self._tops)))
        self._covering = covering_table(height, reach)
        self.letters = sorted(self._tops)

    def number(self, begun, height):
        """Return the number of the targets at the height that begin so."""
        left = height - len(begun)
        if left < 0:
            return 0
        tops = _last_indexes(begun)
        kept = common_prefix(begun, self._cells)
        total = self._narrow_number(tops, left) + self._deep_number(tops, kept, left)
        if kept == len(begun):
            total += self._deeper_number(kept, height)
        return total

    def _narrow_number(self, tops, left):
        """Return how many of the targets have at most as many different values as the reach."""
        if len(tops) > self._bound or not all([value in self._tops for value in tops]):
            return 0
        return self._narrow[left][len(tops)]

    def _deep_number(self, tops, kept, left):
        """Return how many of the others have their depth within the beginning."""
        total, above = 0, []
        # The value in the cell of the depth does not occur again: only last occurrences count.
        for value in list(tops)[::-1][:self._bound + 1]:
            above.append(value)
            if tops[value] <= kept:
                lacking = self._bound + 1 - len(above)
                total += self._choices(tops[value], above) * self._covering[left][lacking]
        return total

    def _deeper_number(self, start, height):
        """Return how many of the others have their depth above the beginning, which begins the stack, too."""
        total = 0
        for depth in range(start, min(len(self._cells), height)):
            words = self._covering[height - depth - 1][self._bound]
            total += self._choices(depth, []) * (self._bound + 1) * words
        return total

    def _choices(self, depth, above):
        """Return how many sets of one value more than the reach the targets of this depth may have from there on.

        Each of them contains the edge and the values that stand above already.
        """
        if depth == len(self._cells) or not all([self._tops.get(value, -1) >= depth for value in above]):
            return 0
        given = len(set([self._cells[depth], *above]))
        if given > self._bound + 1:
            return 0
        return comb(self._varied[depth] - given, self._bound + 1 - given)


def _last_indexes(stack):
    """Return a dict of the last index of each value, by ascending indexes."""
    found = {}
    for index, value in enumerate(stack):
        # Removed first, as a dict keeps the place at which a key came in.
        found.pop(value, None)
        found[value] = index
    return found


def _narrow_table(length, letters, most):
    """Return a list with a row for each length up to this one.

    The row tells for 0, 1, 2 .. different letters that have occurred how many words of this length may follow, if at
    most so many different ones of the letters may occur in all.
    """
    row = [1] * (most + 1)
    table = [row]
    for _ in range(length):
        row = [seen * same + (letters - seen) * more for seen, (same, more) in enumerate(zip(row, row[1:] + [0]))]
        table.append(row)
    return table


def count_targets(stack, height, *, reach=16, beginning=()):
    """Return the number of the targets of the stack at the height that begin so."""
    return Counts(stack, height, reach).number(beginning, height)


def target_index(stack, target, *, reach=16):
    """Return the index of the target among the targets of the stack at its height."""
    word, found = decide(stack, target, reach=reach)
    if word == "blocked":
        raise Blocked(found)
    height = len(target)
    counts = Counts(stack, height, reach)
    index = 0
    for place, value in enumerate(target):
        lesser = [target[:place] + (letter,) for letter in counts.letters if letter < value]
        index += sum([counts.number(begun, height) for begun in lesser])
    return index


def target_at(stack, height, index, *, reach=16):
    """Return the target of the stack at the height with this index."""
    counts = Counts(stack, height, reach)
    if not is_integer(index) or not 0 <= index < counts.number((), height):
        raise NoMember(index)
    begun, left = (), index
    while len(begun) < height:
        begun, left = _longer(counts, begun, height, left)
    return begun


def _longer(counts, begun, height, index):
    """Return the beginning with one value more of the target with this index, and its index among those."""
    for letter in counts.letters:
        longer = begun + (letter,)
        number = counts.number(longer, height)
        if index < number:
            break
        index -= number
    return longer, index


def targets(stack, height, *, reach=16):
    """Yield the targets of the stack at the height, in ascending order."""
    counts = Counts(stack, height, reach)
    # The greatest beginning waits at the bottom.
    waiting = [()]
    while waiting != []:
        begun = waiting.pop()
        if len(begun) == height:
            yield begun
        else:
            longer = [begun + (letter,) for letter in counts.letters[::-1]]
            waiting.extend([cells for cells in longer if counts.number(cells, height) > 0])
