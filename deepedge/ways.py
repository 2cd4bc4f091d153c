"""The way from a stack to a target: down to the floor, to the edge, and up cell by cell."""

from deepedge.instructions import perform


def way(stack, target, floor, constants=()):
    """Return the list of instructions, and pushes of the constants, that make the target above a floor of the two."""
    needed = sorted(set(target[floor:]) - set(constants))
    deeds, cells = descent(stack, floor, floor + len(needed), needed)
    # The way up begins with the value at the edge.
    return deeds + ascent(cells[floor:], target[floor:])


def descent(stack, bottom, height, keep):
    """Return the instructions that lower the stack to the height, and the list of the cells that are left.

    The cells below `bottom` are not touched. Each value of `keep` stays in one of the others, of which as many are
    left at least as there are values to keep.
    """
    cells, deeds = list(stack), []
    spare = {value: cells[bottom:].count(value) - 1 for value in keep}
    while len(cells) > height:
        number = _nearest_spare(cells, spare)
        if number > 0:
            deeds.append(("swap", number))
            perform(cells, ("swap", number))
        deeds.append(("pop",))
        value = cells.pop()
        if value in spare:
            spare[value] -= 1
    return deeds, cells


def _nearest_spare(cells, spare):
    """Return how far below the top the nearest cell lies that may be removed.

    It lies within a reach k, unless k + 1 values are at the top that must all be kept and occur nowhere else. So it
    does if there are at most k values to keep, or k + 1 and one of them is in a deeper cell that stays.
    """
    number = 0
    while spare.get(cells[-1 - number], 1) == 0:
        number += 1
    return number


def ascent(loose, rest):
    """Return the instructions that turn the loose cells, the uppermost ones, into the rest of a target.

    The loose cells hold each value of the rest once, in any order, but for those that are pushed.
    """
    deeds = []
    for index, value in enumerate(rest):
        added, loose = _settle(loose, value, value in rest[index + 1:])
        deeds.extend(added)
    return deeds


def _settle(loose, value, again):
    """Return the instructions that bring the value to the lowest loose cell, and the cells that are loose then.

    If the value is needed again, a copy of it stays loose. A value that no loose cell holds is pushed.
    """
    cells, deeds = list(loose), []
    above = cells[::-1].index(value) if value in cells else None
    if above is None:
        deeds.append(("push", value))
    elif again:
        deeds.append(("dup", above + 1))
    elif 0 < above < len(cells) - 1:
        deeds.append(("swap", above))
    for deed in deeds:
        perform(cells, deed)
    if cells[0] != value:
        across = ("swap", len(cells) - 1)
        deeds.append(across)
        perform(cells, across)
    return deeds, cells[1:]
