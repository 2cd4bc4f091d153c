"""Values, pairs and searches that several tests use."""

import itertools
import random


def nested(depth):
    """A list that is nested so deep."""
    thing = ["a"]
    for _ in range(depth - 1):
        thing = [thing]
    return thing


# Values of every kind that [2] names. None of them is a value, a reach of 2, an instruction or a certificate.
STRANGE = [
    None, True, False, -1, 10 ** 99, -(10 ** 99), "", "A", "a b", "a\n", "-", "~" * 8000,
    [], ["a"], ("b", 1), {}, {"a": 1}, {"reach": [2]}, nested(10), [("pop",)], (("pop", 1),), (("pop",), None),
    ["pop"], ("dup",), ("dup", True), ("dup", 0), ("dup", 41), ("dup", "1"), ("swap", -1), ("swap", 1, 1),
    ("swap", [1]), ("pop", 1), (["pop"],), ("push", 1), [0] * 5000,
]


def letters(count):
    """So many different values."""
    names = ["".join(pair) for pair in itertools.product("abcdefg", "tuvwxyz")]
    return tuple(sorted(names)[:count])


def all_stacks(values, most):
    """Every stack of these values with at most so many cells."""
    for height in range(most + 1):
        yield from itertools.product(values, repeat=height)


def instructions(reach):
    """Every instruction that is valid for the reach, in order."""
    numbers = range(1, reach + 1)
    return [("pop",)] + [("dup", i) for i in numbers] + [("swap", i) for i in numbers]


def after(cells, instruction):
    """The stack after one instruction by the words of [4], or None if it faults."""
    if instruction[0] == "pop":
        return cells[:-1] if cells else None
    number = instruction[1]
    if instruction[0] == "dup":
        return cells + cells[len(cells) - number:][:1] if number <= len(cells) else None
    low = len(cells) - 1 - number
    if low < 0:
        return None
    return cells[:low] + cells[-1:] + cells[low + 1:-1] + cells[low:low + 1]


def found_by_search(stack, reach, most):
    """All stacks that instructions make of the stack, without a height above `most` on the way."""
    seen, fresh = {stack}, [stack]
    while fresh:
        made = [after(cells, instruction) for cells in fresh for instruction in instructions(reach)]
        fresh = []
        for cells in made:
            if cells is not None and len(cells) <= most and cells not in seen:
                seen.add(cells)
                fresh.append(cells)
    return seen


def floors_by_definition(stack, target, reach):
    """The floors of the pair by the words of [6]."""
    found = []
    for floor in range(max(len(stack), len(target)) + 2):
        high = floor + reach + 1
        edge = {stack[floor]} if floor < len(stack) else set()
        if (
            (floor == 0 or high <= len(stack) and high <= len(target))
            and stack[:floor] == target[:floor]
            and set(target[floor:]) <= set(stack[floor:])
            and len(set(target[floor + 1:])) <= reach
            and len(set(target[floor:]) - edge) <= reach
        ):
            found.append(floor)
    return found


def depth_by_definition(target, reach):
    """The depth of the target by the words of [6]."""
    floor = 0
    while len(set(target[floor + 1:])) > reach:
        floor += 1
    return floor


def reached_by_fact(stack, target, reach):
    """Whether the stack reaches the target by the first fact of [7]."""
    floor = depth_by_definition(target, reach)
    values = set(target[floor:])
    return (
        stack[:floor] == target[:floor]
        and values <= set(stack[floor:])
        and (len(values) <= reach or stack[floor] in values)
    )


def random_pairs(seed, count, most=40):
    """Pairs of stacks with a reach, many of which have something in common."""
    chance = random.Random(seed)
    for _ in range(count):
        reach = chance.choice([2, 2, 3, 4, 5, 8, 16, 39, 40])
        names = letters(chance.choice([1, reach, reach + 1, reach + 3, reach + 3]))
        stack = tuple(chance.choice(names) for _ in range(chance.randrange(most + 1)))
        kept = chance.randrange(len(stack) + 1)
        # Where the value of the edge is left out, the edge may block.
        pool = sorted(set(stack[kept:]) - set(stack[kept:kept + 1] * chance.randrange(2))) or names
        pool = chance.sample(pool, min(len(pool), chance.choice([1, reach, reach + 1, reach + 1])))
        rest = pool + [chance.choice(pool[1:] or pool) for _ in range(most)]
        target = stack[:kept] + tuple(rest[:chance.randrange(most - kept + 1)])
        if target and chance.random() < 0.4:
            index = chance.randrange(len(target))
            target = target[:index] + (chance.choice(names),) + target[index + 1:]
        yield stack, target, reach


def random_shuffle(chance, length, most):
    """A shuffle with numbers up to `most`."""
    return tuple(chance.choice(instructions(most)) for _ in range(length))


def raised_by(function, *arguments, **settings):
    """The error that the call raises, or None."""
    try:
        function(*arguments, **settings)
    except Exception as error:
        return error
    return None


def search_layers(stack, reach, most):
    """The layers 0 to `most` of the stack, by the words of [30]."""
    layers, seen = [[stack]], {stack}
    for _ in range(most):
        made = {after(cells, deed) for cells in layers[-1] for deed in instructions(reach)} - {None} - seen
        seen |= made
        layers.append(sorted(made))
    return tuple(tuple(layer) for layer in layers)


def listed_targets(stack, height, reach):
    """The targets of the stack at the height, by [7], of all words."""
    words = itertools.product(sorted(set(stack)), repeat=height)
    return [word for word in words if reached_by_fact(stack, word, reach)]


def random_stacks(seed, count, values, most):
    """So many stacks of at most so many of the values, some of them with few different ones."""
    chance = random.Random(seed)
    for _ in range(count):
        names = chance.sample(values, chance.randrange(1, len(values) + 1))
        yield tuple(chance.choice(names) for _ in range(chance.randrange(most + 1)))
