"""What a stack does not reach any more after a pop."""

from deepedge.judge import reaches
from deepedge.targets import Counts


def lost_count(stack, height, *, reach=16):
    """Return the number of the targets at the height that the stack loses by a pop."""
    before, after = _both_counts(stack, height, reach)
    return _lost_number(before, after, (), height)


def first_lost(stack, height, *, reach=16):
    """Return the least target at the height that the stack loses by a pop, or None."""
    before, after = _both_counts(stack, height, reach)
    if _lost_number(before, after, (), height) == 0:
        return None
    return _least_lost(before, after, height)


def pop_loses(stack, *, reach=16):
    """Return the least height at which the stack loses a target by a pop, and the least such target; or None."""
    if reaches(stack[:-1], stack, reach=reach):
        return None
    # The stack itself is lost, so the search ends at its height at the latest.
    before, after = _both_counts(stack, len(stack), reach)
    height = 0
    while _lost_number(before, after, (), height) == 0:
        height += 1
    return (height, _least_lost(before, after, height))


def _both_counts(stack, height, reach):
    """Return the counts of the stack and those of the stack after a pop."""
    return Counts(stack, height, reach), Counts(stack[:-1], height, reach)


def _lost_number(before, after, begun, height):
    """Return how many targets at the height that begin so are lost."""
    # What is reached after the pop is reached before it, too: the pop is a part of the way.
    return before.number(begun, height) - after.number(begun, height)


def _least_lost(before, after, height):
    """Return the least target at the height that is lost. There is one."""
    begun = ()
    while len(begun) < height:
        longer = [begun + (letter,) for letter in before.letters]
        begun = [cells for cells in longer if _lost_number(before, after, cells, height) > 0][0]
    return begun
