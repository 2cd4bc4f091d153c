"""The least reach that is enough, and the pushes that help."""

from deepedge.judge import decide, reaches
from deepedge.values import LEAST_REACH, MOST_REACH


def least_reach(stack, target):
    """Return the least reach that is enough, with the certificate for the next lesser one; or None."""
    certificate = None
    for reach in range(LEAST_REACH, MOST_REACH + 1):
        word, found = decide(stack, target, reach=reach)
        if word == "reached":
            return (reach, certificate)
        certificate = found
    return None


def helpful_pushes(stack, target, *, reach=16):
    """Return the ascending list of the target's values with one of which on top the stack reaches the target."""
    return [value for value in sorted(set(target)) if reaches(stack + (value,), target, reach=reach)]
