"""Values, stacks and reaches."""

from deepedge.errors import InvalidReach, InvalidStack

MOST_LETTERS = 8
MOST_CELLS = 40
LEAST_REACH = 2
MOST_REACH = 40


def is_integer(thing):
    """Tell whether the thing is an integer. True and False are none."""
    return isinstance(thing, int) and not isinstance(thing, bool)


def is_value(thing):
    """Tell whether the thing is a value: a string of 1 to 8 letters from a to z."""
    if not isinstance(thing, str) or not 1 <= len(thing) <= MOST_LETTERS:
        return False
    return all(["a" <= letter <= "z" for letter in thing])


def is_stack(thing):
    """Tell whether the thing is a stack: a tuple of at most 40 values."""
    return isinstance(thing, tuple) and wrong_cell(thing) is None


def is_reach(thing):
    """Tell whether the thing is a reach: an integer from 2 to 40."""
    return is_integer(thing) and LEAST_REACH <= thing <= MOST_REACH


def wrong_cell(things):
    """Return the index of the first of the entries that cannot stand in a stack, or None."""
    for index, thing in enumerate(things):
        if index == MOST_CELLS or not is_value(thing):
            return index
    return None


def check_stack(thing):
    """Raise `InvalidStack` if the thing, any value, is not a stack."""
    if not isinstance(thing, tuple):
        raise InvalidStack(None)
    index = wrong_cell(thing)
    if index is not None:
        raise InvalidStack(index)


def check_reach(thing):
    """Raise `InvalidReach` if the thing, any value, is not a reach."""
    if not is_reach(thing):
        raise InvalidReach(thing)


def make_stack(*values):
    """Return the stack of the values, the first one at the bottom."""
    check_stack(values)
    return values
