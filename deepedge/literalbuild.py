"""Building the literal instructions that turn a stack into a target."""

from deepedge.errors import Blocked
from deepedge.literals import decide_with
from deepedge.ways import way


def build_with(stack, target, *, constants=(), reach=16):
    """Return a tuple of literal instructions that turns the stack into the target."""
    word, found = decide_with(stack, target, constants=constants, reach=reach)
    if word == "blocked":
        raise Blocked(found)
    return tuple(way(stack, target, found, constants))
