"""Cards: what a shuffle does, without the instructions."""

from deepedge.errors import TooLow
from deepedge.instructions import cells_needed, height_change, listed, perform
from deepedge.values import is_integer

NOTHING = (0, ())
MOST_DEPTH = 2000
MOST_NUMBERS = 2000


def generic_stack(height):
    """Return the generic stack of this height: 1, 2 and so on, from the bottom."""
    return tuple(range(1, height + 1))


def card_of(*parts):
    """Return the card of the shuffle of all instructions of the parts."""
    instructions = listed(parts)
    depth = change = 0
    for instruction in instructions:
        depth = max(depth, cells_needed(instruction) - change)
        change += height_change(instruction)
    cells = list(generic_stack(depth))
    for instruction in instructions:
        perform(cells, instruction)
    return (depth, tuple(cells))


def is_card(thing):
    """Tell whether the thing, any value, is a card."""
    if not isinstance(thing, tuple) or len(thing) != 2:
        return False
    depth, word = thing
    if not is_integer(depth) or not 0 <= depth <= MOST_DEPTH:
        return False
    if not isinstance(word, tuple) or len(word) > MOST_NUMBERS:
        return False
    return all([is_integer(number) and 1 <= number <= depth for number in word])


def apply_card(stack, card):
    """Return the stack after the card."""
    depth, word = card
    below = len(stack) - depth
    if below < 0:
        raise TooLow(depth)
    return stack[:below] + tuple([stack[below + number - 1] for number in word])


def compose(*cards):
    """Return the card of the shuffles of the cards, one after another."""
    depth, word = NOTHING
    for card in cards:
        lacking = max(0, card[0] - len(word))
        word = generic_stack(lacking) + tuple([number + lacking for number in word])
        depth, word = depth + lacking, apply_card(word, card)
    return (depth, word)
