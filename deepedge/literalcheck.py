"""Checking the proof that a stack does not reach a target, not even with constants."""

from deepedge.blocked import check_beside


def check_with(stack, target, value, *, constants=(), reach=16):
    """Return True if the value, any value, is a blocked certificate for the constants."""
    return check_beside(stack, target, constants, value, reach)
