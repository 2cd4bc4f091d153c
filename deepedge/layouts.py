"""Finding a stack that several stacks can all be turned into."""

from deepedge.errors import InvalidStack, InvalidWanted
from deepedge.floors import common_prefix
from deepedge.values import check_reach, is_stack, is_value

MOST_STACKS = 6
MOST_WANTED = 12


def layout_for(*stacks, wanted=(), reach=16):
    """Return `("layout", stack)` or `("barred", rows)`."""
    check_layout_arguments(stacks, wanted, reach)
    ground = common_ground(stacks)
    rows = []
    for floor in range(len(ground) + 1):
        values = open_values(wanted, ground, floor)
        row = _barred_row(stacks, floor, values, reach)
        if row is None:
            return ("layout", ground[:floor] + tuple(values))
        rows.append(row)
    return ("barred", tuple(rows))


def check_layout_arguments(stacks, wanted, reach):
    """Raise the first error of a call of `layout_for` with these arguments, if there is one."""
    check_stacks(stacks)
    check_wanted(wanted)
    check_reach(reach)


def check_stacks(stacks):
    """Raise `InvalidStack` if the entries of the tuple are not one to six stacks."""
    for index, stack in enumerate(stacks):
        if index == MOST_STACKS or not is_stack(stack):
            raise InvalidStack(index)
    if stacks == ():
        raise InvalidStack(0)


def check_wanted(wanted):
    """Raise `InvalidWanted` if the thing, any value, is not a tuple of at most twelve values."""
    if not isinstance(wanted, tuple):
        raise InvalidWanted(wanted)
    for index, value in enumerate(wanted):
        if index == MOST_WANTED or not is_value(value):
            raise InvalidWanted(value)


def common_ground(stacks):
    """Return the longest common prefix of the stacks."""
    ground = stacks[0]
    for stack in stacks:
        ground = ground[:common_prefix(ground, stack)]
    return ground


def open_values(wanted, ground, floor):
    """Return the ascending list of the wanted values that are not below the floor."""
    return sorted(set(wanted) - set(ground[:floor]))


def _barred_row(stacks, floor, values, reach):
    """Return the row that tells why these open values cannot stand above the floor, or None if they can."""
    for index, stack in enumerate(stacks):
        missing = sorted(set(values) - set(stack[floor:]))
        if missing != []:
            return ("missing", index, missing[0])
    if len(values) <= reach:
        return None
    if len(values) > reach + 1:
        return ("many", tuple(values[:reach + 2]))
    for index, stack in enumerate(stacks):
        # No value is missing, so the stack has such a cell.
        if stack[floor] not in values:
            return ("edge", index, tuple(values))
    return None
