"""How far down a stack must be rebuilt to become a target."""


def common_prefix(one, other):
    """Return how many of the lowest cells two stacks have in common."""
    for index, (left, right) in enumerate(zip(one, other)):
        if left != right:
            return index
    return min(len(one), len(other))


def depth_of(target, *, reach=16):
    """Return the depth of the target."""
    return depth_beside(target, (), reach)


def depth_beside(target, constants, reach):
    """Return the depth of the target for a machine that can also push the constants."""
    above = {}
    for index in reversed(range(len(target))):
        if target[index] not in constants:
            above[target[index]] = True
        if len(above) > reach:
            return index
    return 0


def is_floor(stack, target, floor, reach):
    """Tell whether the integer is a floor of the pair."""
    if floor != 0 and not 0 < floor <= min(len(stack), len(target)) - reach - 1:
        return False
    if stack[:floor] != target[:floor] or len(set(target[floor:]) - set(stack[floor:])) > 0:
        return False
    if len(set(target[floor + 1:])) > reach:
        return False
    # The slice is empty where the stack has no cell at the floor.
    return len(set(target[floor:]) - set(stack[floor:floor + 1])) <= reach


def floors(stack, target, *, reach=16):
    """Return the ascending list of the floors of the pair."""
    count = max(1, min(len(stack), len(target)) - reach)
    return [floor for floor in range(count) if is_floor(stack, target, floor, reach)]


def profile(target, *, reach=16):
    """Return the depth of the target, the cells below it, and the ascending values from it on."""
    depth = depth_of(target, reach=reach)
    return (depth, target[:depth], tuple(sorted(set(target[depth:]))))
