"""Comparing what two shuffles do."""

from deepedge.cards import card_of


def same_effect(one, other):
    """Tell whether the two shuffles have the same effect."""
    return card_of(one) == card_of(other)


def separating_stack(one, other):
    """Return the least stack that separates the two shuffles, or None."""
    first_depth, first_word = card_of(one)
    second_depth, second_word = card_of(other)
    if first_depth == second_depth and first_word == second_word:
        return None
    cells = ["a"] * min(first_depth, second_depth)
    if first_depth == second_depth and len(first_word) == len(second_word):
        cells[_greatest_moved(first_word, second_word) - 1] = "b"
    return tuple(cells)


def _greatest_moved(one, other):
    """Return the greatest number that stands at different places in two words of one length."""
    return max([max(left, right) for left, right in zip(one, other) if left != right])
