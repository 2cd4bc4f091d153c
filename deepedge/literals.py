"""Machines that can also push some values at any time."""

from deepedge.instructions import listed, perform
from deepedge.judge import decide_beside
from deepedge.machine import perform_item


def run_with(stack, *parts, constants=(), reach=16):
    """Return the stack after the literal instructions of the parts."""
    cells = list(stack)
    for index, item in enumerate(listed(parts)):
        if _is_push(item, constants):
            perform(cells, item)
        else:
            perform_item(cells, index, item, reach)
    return tuple(cells)


def reaches_with(stack, target, *, constants=(), reach=16):
    """Tell whether the stack reaches the target with the constants."""
    return decide_with(stack, target, constants=constants, reach=reach)[0] == "reached"


def decide_with(stack, target, *, constants=(), reach=16):
    """Return `("reached", floor)` or `("blocked", certificate)`."""
    return decide_beside(stack, target, constants, reach)


def _is_push(item, constants):
    """Tell whether the item, any value, pushes one of the constants."""
    if not isinstance(item, tuple) or len(item) != 2:
        return False
    return item[0] == "push" and item[1] in constants
