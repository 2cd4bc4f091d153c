"""Steps that compute values, and code: instructions and calls."""

from deepedge.instructions import is_instruction
from deepedge.values import is_integer, is_value

MOST_ARGUMENTS = 3

# An operation is passed by its name, beside arguments that have these names.
TAKEN_NAMES = ("code", "stack", "reach")


def is_operation(thing):
    """Tell whether the thing, any value, is the name of an operation."""
    return is_value(thing) and thing not in TAKEN_NAMES


def is_step(thing):
    """Tell whether the thing, any value, is a step."""
    if not isinstance(thing, tuple) or len(thing) != 3:
        return False
    operation, arguments, result = thing
    if not isinstance(arguments, tuple) or len(arguments) > MOST_ARGUMENTS:
        return False
    return is_operation(operation) and all([is_value(value) for value in arguments]) and is_value(result)


def is_call(thing):
    """Tell whether the thing, any value, is a call."""
    if not isinstance(thing, tuple) or len(thing) != 3 or thing[0] != "call":
        return False
    return is_operation(thing[1]) and is_integer(thing[2]) and 0 <= thing[2] <= MOST_ARGUMENTS


def is_code(thing, *, reach=40):
    """Tell whether the thing, any value, is code whose instructions are valid for the reach."""
    if not isinstance(thing, tuple):
        return False
    return all([is_call(item) or is_instruction(item, reach=reach) for item in thing])


def live_values(steps, target=()):
    """Return the list of the live values after each step, each an ascending tuple."""
    # From the last step to the first one: what is needed behind a step is what is live after it.
    needed = {value: True for value in target}
    lives = []
    for _, arguments, result in steps[::-1]:
        needed.pop(result, None)
        lives.append(tuple(sorted(needed)))
        for value in arguments:
            needed[value] = True
    return lives[::-1]
