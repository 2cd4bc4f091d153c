"""Counting the stacks that can be turned into a target."""

from deepedge.floors import profile
from deepedge.words import covering


def count_sources(target, height, values, *, reach=16):
    """Return the number of the stacks of this height with values among these that reach the target."""
    if not all([value in values for value in target]):
        return 0
    depth, _, needed = profile(target, reach=reach)
    if len(needed) <= reach:
        return covering(height, len(values), len(needed))
    # The edge is one of the needed values, and the others occur above it.
    return len(needed) * covering(height - depth - 1, len(values), reach)
