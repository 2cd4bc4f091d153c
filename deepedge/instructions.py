"""Instructions, and lists of them that are given in parts."""

from deepedge.errors import InvalidShuffle
from deepedge.values import is_integer

MOST_NUMBER = 40
MOST_INSTRUCTIONS = 600

HEIGHT_CHANGES = {"pop": -1, "dup": 1, "swap": 0}


def is_instruction(thing, *, reach=40):
    """Tell whether the thing, any value, is an instruction that is valid for the reach."""
    if not isinstance(thing, tuple):
        return False
    if len(thing) == 1:
        return thing[0] == "pop"
    if len(thing) != 2 or thing[0] not in ("dup", "swap"):
        return False
    return is_integer(thing[1]) and 1 <= thing[1] <= min(reach, MOST_NUMBER)


def is_shuffle(thing, *, reach=40):
    """Tell whether the thing, any value, is a shuffle of instructions that are valid for the reach."""
    if not isinstance(thing, tuple) or len(thing) > MOST_INSTRUCTIONS:
        return False
    return all([is_instruction(item, reach=reach) for item in thing])


def part_items(part):
    """Return the list of the items of one part."""
    if isinstance(part, list):
        return list(part)
    if isinstance(part, tuple) and all([isinstance(item, tuple) for item in part]):
        return list(part)
    return [part]


def listed(parts):
    """Return the list of the items of all parts, in order."""
    items = []
    for part in parts:
        items.extend(part_items(part))
    return items


def shuffle(*parts):
    """Return the instructions of all parts as a shuffle."""
    items = []
    for index, part in enumerate(parts):
        added = part_items(part)
        items.extend(added)
        if len(items) > MOST_INSTRUCTIONS or not all([is_instruction(item) for item in added]):
            raise InvalidShuffle(index)
    return tuple(items)


def cells_needed(instruction):
    """Return how many cells the instruction needs."""
    if instruction[0] == "pop":
        return 1
    if instruction[0] == "dup":
        return instruction[1]
    return instruction[1] + 1


def height_change(instruction):
    """Return by how many cells the instruction raises a stack: 1, 0 or -1."""
    return HEIGHT_CHANGES[instruction[0]]


def perform(cells, instruction):
    """Execute the instruction, or the push, on a list of cells, which has as many as it needs."""
    if instruction[0] == "pop":
        cells.pop()
    elif instruction[0] == "push":
        cells.append(instruction[1])
    elif instruction[0] == "dup":
        cells.append(cells[-instruction[1]])
    else:
        other = -1 - instruction[1]
        cells[-1], cells[other] = cells[other], cells[-1]
