"""Checking the proof that a stack does not reach a target."""

from deepedge.errors import InvalidCertificate
from deepedge.values import is_integer

REASONS = ("ground", "missing", "edge")


def check_blocked(stack, target, value, *, reach=16):
    """Return True if the value, any value, is a blocked certificate."""
    return check_beside(stack, target, (), value, reach)


def check_beside(stack, target, constants, value, reach):
    """Return what `check_blocked` returns, for a machine that can also push the constants."""
    if not _has_shape(value):
        raise InvalidCertificate("shape")
    floor, witnesses, reason, detail = value
    if not 0 <= floor < len(target):
        raise InvalidCertificate("floor")
    # What can be pushed proves nothing.
    cells = [cell for cell in target[floor:] if cell not in constants]
    if not _are_witnesses(witnesses, cells, floor, reach):
        raise InvalidCertificate("witnesses")
    if reason == "ground":
        holds = _is_ground(stack, target, floor, detail)
    elif reason == "missing":
        holds = detail in cells and detail not in stack[floor:]
    else:
        holds = _is_edge(stack, target, floor) and _are_values(detail, cells, reach + 1) and stack[floor] not in detail
    if not holds:
        raise InvalidCertificate(reason)
    return True


def _has_shape(value):
    """Tell whether the value is a tuple of an integer, a tuple, a reason and anything."""
    if not isinstance(value, tuple) or len(value) != 4:
        return False
    return is_integer(value[0]) and isinstance(value[1], tuple) and value[2] in REASONS


def _are_witnesses(witnesses, cells, floor, reach):
    """Tell whether the tuple proves that no floor is less than this one, from which on these cells stand."""
    if floor == 0:
        return witnesses == ()
    return _are_values(witnesses, cells, reach + 1)


def _are_values(thing, cells, count):
    """Tell whether the thing is an ascending tuple of so many distinct values of the cells."""
    if not isinstance(thing, tuple) or len(thing) != count:
        return False
    # The cells hold strings alone, so what is found among them can be compared.
    if not all([item in cells for item in thing]):
        return False
    return all([left < right for left, right in zip(thing, thing[1:])])


def _is_ground(stack, target, floor, detail):
    """Tell whether the detail is the index of a cell below the floor in which the target differs."""
    return is_integer(detail) and 0 <= detail < floor and stack[detail:detail + 1] != target[detail:detail + 1]


def _is_edge(stack, target, floor):
    """Tell whether the stack has another value than the target in the cell of the floor."""
    return floor < len(stack) and stack[floor] != target[floor]
