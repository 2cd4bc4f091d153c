"""Checking the proof that several stacks have no layout."""

from deepedge.errors import InvalidCertificate
from deepedge.layouts import check_layout_arguments, common_ground, open_values
from deepedge.values import is_integer, is_value


def check_barred(stacks, wanted, value, *, reach=16):
    """Return True if the value, any value, is a barred certificate."""
    check_layout_arguments(stacks, wanted, reach)
    if not isinstance(value, tuple) or not all([_has_form(row, len(stacks)) for row in value]):
        raise InvalidCertificate("shape")
    ground = common_ground(stacks)
    if len(value) != len(ground) + 1:
        raise InvalidCertificate("count")
    for floor, row in enumerate(value):
        if not _is_barred(row, stacks, floor, open_values(wanted, ground, floor), reach):
            raise InvalidCertificate(row[0])
    return True


def _has_form(row, count):
    """Tell whether the thing has the form of a row, where there are so many stacks."""
    if not isinstance(row, tuple) or row == ():
        return False
    if row[0] == "many":
        return len(row) == 2 and _are_values(row[1])
    if len(row) != 3 or not is_integer(row[1]) or not 0 <= row[1] < count:
        return False
    if row[0] == "missing":
        return is_value(row[2])
    return row[0] == "edge" and _are_values(row[2])


def _are_values(thing):
    """Tell whether the thing is a tuple of values, however many."""
    return isinstance(thing, tuple) and all([is_value(item) for item in thing])


def _is_barred(row, stacks, floor, values, reach):
    """Tell whether the row proves that no layout stands on this floor, above which these values are open."""
    if row[0] == "many":
        return _are_chosen(row[1], values, reach + 2)
    stack = stacks[row[1]]
    if row[0] == "missing":
        return row[2] in values and row[2] not in stack[floor:]
    if floor < len(stack) and stack[floor] in row[2]:
        return False
    return _are_chosen(row[2], values, reach + 1)


def _are_chosen(chosen, values, count):
    """Tell whether so many different ones of the values are chosen."""
    if len(chosen) != count or len(set(chosen)) != count:
        return False
    return all([item in values for item in chosen])
