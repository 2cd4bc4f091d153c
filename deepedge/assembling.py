"""Assembling code that computes steps."""

from deepedge.building import build
from deepedge.errors import InvalidStack, InvalidStep, Overloaded
from deepedge.steps import is_step, live_values
from deepedge.values import check_reach, is_stack

MOST_STEPS = 12


def assemble(start, steps, *, target=(), reach=16):
    """Return code that computes the steps in their order and leads from the start to the target."""
    _check_arguments(start, steps, target, reach)
    lives = live_values(steps, target)
    for index, live in enumerate(lives):
        if len(live) > reach - 1:
            raise Overloaded(index)
    code, cells = [], start
    for (operation, arguments, result), live in zip(steps, lives):
        # Only the first of these stacks may be blocked: behind a call at most as many values are left as the reach.
        code.extend(build(cells, live + arguments, reach=reach))
        code.append(("call", operation, len(arguments)))
        cells = live + (result,)
    code.extend(build(cells, target, reach=reach))
    return tuple(code)


def _check_arguments(start, steps, target, reach):
    """Raise the first error that the arguments, any values, have by themselves."""
    for index, thing in enumerate((start, target)):
        if not is_stack(thing):
            raise InvalidStack(index)
    check_reach(reach)
    if not isinstance(steps, tuple):
        raise InvalidStep(0)
    known = {value: True for value in start}
    for index, thing in enumerate(steps):
        if index == MOST_STEPS or not _fits(thing, known):
            raise InvalidStep(index)
        known[thing[2]] = True
    if not all([value in known for value in target]):
        raise InvalidStep(len(steps))


def _fits(thing, known):
    """Tell whether the thing is a step that makes a new value of known ones."""
    if not is_step(thing):
        return False
    return thing[2] not in known and all([value in known for value in thing[1]])
