"""Shortest shuffles, found layer by layer."""

from deepedge.errors import Blocked, TooMany
from deepedge.judge import decide
from deepedge.machine import run


def shortest(stack, target, *, reach=16, limit=500):
    """Return the least of the shortest shuffles to the target, and the layer certificate for its length."""
    word, found = decide(stack, target, reach=reach)
    if word == "blocked":
        raise Blocked(found)
    origins = {stack: None}
    layers, layer, count = [], [stack], 0
    while target not in origins:
        count += len(layer)
        if count > limit:
            raise TooMany(limit)
        layers.append(tuple(sorted(layer)))
        layer = _next_layer(layer, origins, reach)
    return (_least_shuffle(target, origins), tuple(layers))


def possible_deeds(stack, reach):
    """Return the list of the instructions that are valid and do not fault on the stack, in order."""
    if stack == ():
        return []
    dups = [("dup", number) for number in range(1, min(reach, len(stack)) + 1)]
    swaps = [("swap", number) for number in range(1, min(reach, len(stack) - 1) + 1)]
    return [("pop",)] + dups + swaps


def _next_layer(layer, origins, reach):
    """Return the list of the stacks that come new behind this layer.

    `origins` holds all stacks so far; for each new one, the stack and the instruction are added that lead to it first.
    The stacks of a layer stand in the order of their least shuffles, and the instructions in their order. So what
    leads to a stack first is the end of its least shuffle, and the new layer stands in this order again.
    """
    fresh = []
    for stack in layer:
        for deed in possible_deeds(stack, reach):
            made = run(stack, deed, reach=reach)
            if made not in origins:
                origins[made] = (stack, deed)
                fresh.append(made)
    return fresh


def _least_shuffle(stack, origins):
    """Return the shuffle that leads to the stack, as the origins tell."""
    deeds = []
    while origins[stack] is not None:
        stack, deed = origins[stack]
        deeds.append(deed)
    return tuple(deeds[::-1])
