"""Whether a stack reaches a target, and why not."""

from deepedge.floors import common_prefix, depth_beside


def reaches(stack, target, *, reach=16):
    """Tell whether the stack reaches the target."""
    return decide(stack, target, reach=reach)[0] == "reached"


def equivalent(one, other, *, reach=16):
    """Tell whether each of the two stacks reaches the other one."""
    return reaches(one, other, reach=reach) and reaches(other, one, reach=reach)


def decide(stack, target, *, reach=16):
    """Return `("reached", floor)` or `("blocked", certificate)`."""
    return decide_beside(stack, target, (), reach)


def decide_beside(stack, target, constants, reach):
    """Return what `decide` returns, for a machine that can also push the constants."""
    depth = depth_beside(target, constants, reach)
    needed = tuple(sorted(set(target[depth:]) - set(constants)))
    reason, detail = _obstacle(stack, target[:depth], needed, reach)
    if reason is None:
        return ("reached", depth)
    # The depth leaves at most one value more than the reach: these are all the witnesses that there are.
    witnesses = needed if depth > 0 else ()
    return ("blocked", (depth, witnesses, reason, detail))


def _obstacle(stack, ground, needed, reach):
    """Return the first reason why the stack does not reach the target, with its detail, or None twice."""
    depth = len(ground)
    kept = common_prefix(stack, ground)
    if kept < depth:
        return "ground", kept
    missing = sorted(set(needed) - set(stack[depth:]))
    if missing != []:
        return "missing", missing[0]
    if len(needed) > reach and stack[depth] not in needed:
        return "edge", needed
    return None, None
