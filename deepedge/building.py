"""Building the instructions that turn a stack into a target."""

from deepedge.errors import Blocked, NoFloor
from deepedge.floors import is_floor
from deepedge.judge import decide
from deepedge.values import is_integer
from deepedge.ways import way


def build(stack, target, *, reach=16, floor=None):
    """Return a shuffle that turns the stack into the target and leaves the cells below the floor untouched."""
    word, found = decide(stack, target, reach=reach)
    if word == "blocked":
        raise Blocked(found)
    if floor is None:
        return tuple(way(stack, target, found))
    if not is_integer(floor) or not is_floor(stack, target, floor, reach):
        raise NoFloor(floor)
    return tuple(way(stack, target, floor))


def building_steps(stack, target, *, reach=16, floor=None):
    """Yield the instructions that `build` returns, in order."""
    yield from build(stack, target, reach=reach, floor=floor)
