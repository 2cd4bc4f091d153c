"""Stacks with other values, and stacks with values below them."""

from deepedge.errors import InvalidStack
from deepedge.values import MOST_CELLS, is_value


def renamed(stack, **names):
    """Return the stack in which each value that is a name here is replaced, all at once."""
    for index, value in enumerate(stack):
        if not is_value(names.get(value, value)):
            raise InvalidStack(index)
    return tuple([names.get(value, value) for value in stack])


def raised(bottom, *stacks):
    """Return the list of the stacks, each with the values of the bottom below it."""
    if any([len(bottom) + len(stack) > MOST_CELLS for stack in stacks]):
        raise InvalidStack(MOST_CELLS)
    return [bottom + stack for stack in stacks]
