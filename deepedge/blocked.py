"""Checking the proof that a stack does not reach a target."""

from deepedge.errors import InvalidCertificate
from deepedge.values import is_integer

REASONS = ("ground", "missing", "edge")


def check_blocked(stack, target, value, *, reach=16):
    """Return True if the value, any value, is a blocked certificate."""
    if not _has_shape(value):
        raise InvalidCertificate("shape")
    floor, witnesses, reason, detail = value
    if not 0 <= floor < len(target):
        raise InvalidCertificate("floor")
    if not _are_witnesses(witnesses, target, floor, reach):
        raise InvalidCertificate("witnesses")
    if not _holds(stack, target, floor, reason, detail, reach):
        raise InvalidCertificate(reason)
    return True


def _has_shape(value):
    """Tell whether the value is a tuple of an integer, a tuple, a reason and anything."""
    if not isinstance(value, tuple) or len(value) != 4:
        return False
    return is_integer(value[0]) and isinstance(value[1], tuple) and value[2] in REASONS


def _are_witnesses(witnesses, target, floor, reach):
    """Tell whether the tuple proves that no floor is less than this one."""
    if floor == 0:
        return witnesses == ()
    return _are_values(witnesses, target[floor:], reach + 1)


def _are_values(thing, cells, count):
    """Tell whether the thing is an ascending tuple of so many distinct values of the cells."""
    if not isinstance(thing, tuple) or len(thing) != count:
        return False
    # The cells hold strings alone, so what is found among them can be compared.
    if not all([item in cells for item in thing]):
        return False
    return all([left < right for left, right in zip(thing, thing[1:])])


def _holds(stack, target, floor, reason, detail, reach):
    """Tell whether the reason with this detail proves that no floor is this one or greater."""
    if reason == "ground":
        return is_integer(detail) and 0 <= detail < floor and stack[detail:detail + 1] != target[detail:detail + 1]
    if reason == "missing":
        return detail in target[floor:] and detail not in stack[floor:]
    if floor >= len(stack) or stack[floor] == target[floor]:
        return False
    return _are_values(detail, target[floor:], reach + 1) and stack[floor] not in detail
