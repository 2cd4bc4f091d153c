"""Executing code on integers."""

from deepedge.errors import Fault, InvalidShuffle, UnknownOperation
from deepedge.instructions import is_instruction
from deepedge.machine import perform_item
from deepedge.steps import is_call
from deepedge.values import check_reach


def execute(code, stack, *, reach=16, **operations):
    """Return the stack of integers behind the code, whose calls call the operations that are passed by name."""
    check_reach(reach)
    _check_code(code, operations)
    cells = list(stack)
    for index, item in enumerate(code):
        if item[0] == "call":
            operation = operations[item[1]]
            _call(cells, index, item, operation)
        else:
            perform_item(cells, index, item, reach)
    return tuple(cells)


def _check_code(code, operations):
    """Raise the first error that the code, any value, has before it is executed."""
    if not isinstance(code, tuple):
        raise InvalidShuffle(0)
    for index, item in enumerate(code):
        if not is_call(item) and not is_instruction(item):
            raise InvalidShuffle(index)
    for item in code:
        if item[0] == "call" and item[1] not in operations:
            raise UnknownOperation(item[1])


def _call(cells, index, item, operation):
    """Replace the topmost integers by what the operation makes of them."""
    below = len(cells) - item[2]
    if below < 0:
        raise Fault(index, item)
    arguments = cells[below:]
    del cells[below:]
    cells.append(operation(*arguments))
