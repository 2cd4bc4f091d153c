"""Checking the proof that no shuffle to a target is shorter."""

from deepedge.errors import InvalidCertificate
from deepedge.layers import possible_deeds
from deepedge.machine import run
from deepedge.values import is_stack


def check_layers(stack, target, value, *, reach=16):
    """Return the length for which the value, any value, is a layer certificate."""
    if not isinstance(value, tuple) or not all([_is_layer(thing) for thing in value]):
        raise InvalidCertificate("shape")
    if value != () and value[0] != (stack,):
        raise InvalidCertificate("start")
    if not all([_is_ascending(layer) for layer in value]):
        raise InvalidCertificate("order")
    if not _are_made(value, reach):
        raise InvalidCertificate("step")
    if not _are_whole(value, reach):
        raise InvalidCertificate("open")
    if any([target in layer for layer in value]):
        raise InvalidCertificate("target")
    return len(value)


def _is_layer(thing):
    """Tell whether the thing is a tuple of one or more stacks."""
    return isinstance(thing, tuple) and thing != () and all([is_stack(item) for item in thing])


def _is_ascending(layer):
    """Tell whether each stack of the layer is greater than the one before it."""
    return all([left < right for left, right in zip(layer, layer[1:])])


def _made_of(layer, reach):
    """Return the list of the stacks that one valid instruction makes of a stack of the layer."""
    return [run(stack, deed, reach=reach) for stack in layer for deed in possible_deeds(stack, reach)]


def _are_made(layers, reach):
    """Tell whether each stack of a later layer is made of one in the layer before it and stands in no earlier one."""
    earlier = {}
    for before, layer in zip(layers, layers[1:]):
        for stack in before:
            earlier[stack] = True
        made = {stack: True for stack in _made_of(before, reach)}
        if not all([stack in made and stack not in earlier for stack in layer]):
            return False
    return True


def _are_whole(layers, reach):
    """Tell whether all that is made of a layer, but not of the last one, stands in a layer up to the next one."""
    known = {}
    for layer, after in zip(layers, layers[1:]):
        for stack in layer + after:
            known[stack] = True
        if not all([stack in known for stack in _made_of(layer, reach)]):
            return False
    return True
