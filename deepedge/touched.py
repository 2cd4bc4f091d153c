"""Going down to the values that are kept, and how high instructions lead."""

from deepedge.errors import InvalidWanted, TooMany
from deepedge.instructions import MOST_NUMBER, height_change, listed
from deepedge.machine import run
from deepedge.ways import descent


def descend(stack, height, *keep, reach=16):
    """Return the pops and swaps that leave `height` cells, in which each kept value occurs."""
    wanted = _wanted_values(keep)
    for value in wanted:
        if value not in stack:
            raise InvalidWanted(value)
    # All of them are in the stack, so they are strings, which can be members of a set.
    needed = sorted(set(wanted))
    if len(needed) > reach:
        raise TooMany(reach)
    # Fewer cells cannot hold all the kept values.
    deeds, _ = descent(stack, 0, max(height, len(needed)), needed)
    return tuple(deeds)


def _wanted_values(keep):
    """Return the list of the values to keep, one by one."""
    wanted = []
    for part in keep:
        if isinstance(part, (list, tuple)):
            wanted.extend(part)
        else:
            wanted.append(part)
    return wanted


def never_higher(stack, *parts):
    """Return the greatest height that the stack has on the way, the start included."""
    # What this run leaves does not matter here; it raises the fault, if there is one.
    run(stack, *parts, reach=MOST_NUMBER)
    height = highest = len(stack)
    for instruction in listed(parts):
        height += height_change(instruction)
        highest = max(highest, height)
    return highest
