"""Finding instructions for a card, and writing lists of instructions shorter."""

from deepedge.cards import generic_stack
from deepedge.instructions import listed
from deepedge.values import LEAST_REACH
from deepedge.ways import way


def realize(card):
    """Return a shuffle with this card."""
    depth, word = card
    if depth == 0:
        return ()
    # These two leave every stack as it is, but fault on one that is lower than the depth.
    deeds = [("dup", depth), ("pop",)]
    deeds.extend(way(generic_stack(depth), word, 0))
    return tuple(deeds)


def reach_needed(*parts):
    """Return the least reach for which all instructions of the parts are valid."""
    numbers = [instruction[1] for instruction in listed(parts) if instruction[0] != "pop"]
    return max([LEAST_REACH, *numbers])


def tidied(*parts):
    """Return the shuffle of all instructions of the parts without those that undo each other."""
    kept = []
    for instruction in listed(parts):
        if kept != [] and _undoes(instruction, kept[-1]):
            kept.pop()
        elif kept == [] or kept[-1] != ("dup", 1) or instruction != ("swap", 1):
            kept.append(instruction)
    return tuple(kept)


def _undoes(instruction, before):
    """Tell whether the instruction takes back the one right before it."""
    if instruction[0] == "pop":
        return before[0] == "dup"
    return instruction[0] == "swap" and instruction == before
