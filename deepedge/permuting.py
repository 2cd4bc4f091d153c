"""Permutations of the upper cells by swaps alone."""

from deepedge.errors import InvalidCertificate
from deepedge.instructions import perform
from deepedge.values import is_integer


def cycles_of(stack, target, *, reach=16):
    """Return the ascending tuple of all cycles of the permutation pair, or None if the two are none."""
    low = max(0, len(stack) - reach - 1)
    if not _are_pair(stack, target, low):
        return None
    places = {stack[cell]: cell for cell in range(low, len(stack))}
    cycles, seen = [], {}
    for first in range(low, len(stack)):
        cycle, cell = [], first
        while cell not in seen:
            seen[cell] = True
            cycle.append(cell)
            cell = places[target[cell]]
        if len(cycle) > 1:
            cycles.append(tuple(cycle))
    return tuple(cycles)


def least_swaps(stack, target, *, reach=16):
    """Return the least number of swaps and a shuffle of so many swaps that leads to the target, or None."""
    cycles = cycles_of(stack, target, reach=reach)
    if cycles is None:
        return None
    top = len(stack) - 1
    cells = list(stack)
    deeds = _sort_top(cells, target)
    for cycle in cycles:
        if top not in cycle:
            # The top joins the cycle, and comes back to its place at the end.
            entry = ("swap", top - cycle[0])
            perform(cells, entry)
            deeds.append(entry)
            deeds.extend(_sort_top(cells, target))
    return (len(deeds), tuple(deeds))


def most_swaps(cells):
    """Return the greatest least number of swaps for so many upper cells."""
    return 3 * (cells - 1) // 2


def check_swaps(stack, target, value, *, reach=16):
    """Return True if the value, any value, is a swap certificate of the permutation pair."""
    known = cycles_of(stack, target, reach=reach)
    if known is None:
        raise InvalidCertificate("pair")
    if not _has_shape(value):
        raise InvalidCertificate("shape")
    count, cycles = value
    if not _are_chosen(cycles, known):
        raise InvalidCertificate("cycles")
    if not 0 <= count <= _least_number(cycles, len(stack) - 1):
        raise InvalidCertificate("count")
    return True


def _are_pair(stack, target, low):
    """Tell whether the two are a permutation pair, whose cells can be moved from this index on."""
    if stack[:low] != target[:low] or sorted(stack[low:]) != sorted(target[low:]):
        return False
    return len(set(stack[low:])) == len(stack) - low


def _sort_top(cells, target):
    """Return the list of the swaps that bring what is on top to its place, until the right value is on top."""
    deeds = []
    while cells != [] and cells[-1] != target[-1]:
        deed = ("swap", target[::-1].index(cells[-1]))
        perform(cells, deed)
        deeds.append(deed)
    return deeds


def _has_shape(value):
    """Tell whether the value is a tuple of an integer and a tuple of tuples of integers."""
    if not isinstance(value, tuple) or len(value) != 2:
        return False
    if not is_integer(value[0]) or not isinstance(value[1], tuple):
        return False
    return all([isinstance(cycle, tuple) and all([is_integer(cell) for cell in cycle]) for cycle in value[1]])


def _are_chosen(cycles, known):
    """Tell whether the cycles are some of the known ones, in ascending order."""
    if not all([cycle in known for cycle in cycles]):
        return False
    return all([left < right for left, right in zip(cycles, cycles[1:])])


def _least_number(cycles, top):
    """Return how many swaps these cycles need at least."""
    number = sum([len(cycle) + 1 for cycle in cycles])
    if any([top in cycle for cycle in cycles]):
        return number - 2
    return number
