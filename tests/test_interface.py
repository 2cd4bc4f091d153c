"""[2] and the interface: where each name is defined, and what its arguments are called."""

import importlib
import inspect
import unittest

FUNCTIONS = {
    "values": {
        "is_value": "(thing)", "is_stack": "(thing)", "is_reach": "(thing)", "make_stack": "(*values)",
    },
    "instructions": {
        "is_instruction": "(thing, *, reach=40)", "is_shuffle": "(thing, *, reach=40)", "shuffle": "(*parts)",
        "cells_needed": "(instruction)", "height_change": "(instruction)",
    },
    "machine": {
        "run": "(stack, *parts, reach=16)", "trace": "(stack, *parts, reach=16)",
        "lowest_height": "(stack, *parts, reach=16)", "untouched": "(stack, *parts, reach=16)",
    },
    "cards": {
        "card_of": "(*parts)", "is_card": "(thing)", "apply_card": "(stack, card)", "compose": "(*cards)",
    },
    "effects": {"same_effect": "(one, other)", "separating_stack": "(one, other)"},
    "realize": {"realize": "(card)", "reach_needed": "(*parts)", "tidied": "(*parts)"},
    "floors": {
        "common_prefix": "(one, other)", "depth_of": "(target, *, reach=16)",
        "floors": "(stack, target, *, reach=16)", "profile": "(target, *, reach=16)",
    },
    "judge": {
        "reaches": "(stack, target, *, reach=16)", "equivalent": "(one, other, *, reach=16)",
        "decide": "(stack, target, *, reach=16)",
    },
    "blocked": {"check_blocked": "(stack, target, value, *, reach=16)"},
    "building": {
        "build": "(stack, target, *, reach=16, floor=None)",
        "building_steps": "(stack, target, *, reach=16, floor=None)",
    },
    "touched": {"descend": "(stack, height, *keep, reach=16)", "never_higher": "(stack, *parts)"},
    "layers": {"shortest": "(stack, target, *, reach=16, limit=500)"},
    "layercheck": {"check_layers": "(stack, target, value, *, reach=16)"},
    "reaches": {
        "least_reach": "(stack, target)", "helpful_pushes": "(stack, target, *, reach=16)",
    },
    "renaming": {"renamed": "(stack, **names)", "raised": "(bottom, *stacks)"},
    "words": {"surjections": "(length, letters)", "covering": "(length, letters, needed)"},
}
METHODS = {
    "Machine": {
        "__init__": "(self, stack=(), *, reach=16)", "change": "(self, **settings)", "do": "(self, *parts)",
        "undo": "(self, count=1)", "trial": "(self, deed)", "twin": "(self)", "__len__": "(self)",
        "__eq__": "(self, other)", "__str__": "(self)", "__repr__": "(self)",
    },
    "BoundedMachine": {
        "__init__": "(self, stack=(), *, reach=16, most=40)", "change": "(self, **settings)", "do": "(self, *parts)",
        "trial": "(self, deed)", "twin": "(self)", "__eq__": "(self, other)", "__str__": "(self)",
        "__repr__": "(self)",
    },
}
GENERATORS = {("machine", "trace"), ("building", "building_steps")}


def module(name):
    return importlib.import_module("deepedge." + name)


class InterfaceTest(unittest.TestCase):
    def test_functions(self):
        for file, functions in FUNCTIONS.items():
            for name, signature in functions.items():
                function = getattr(module(file), name)
                self.assertEqual(str(inspect.signature(function)), signature, name)
                self.assertEqual(function.__module__, "deepedge." + file)
                self.assertEqual(inspect.isgeneratorfunction(function), (file, name) in GENERATORS)

    def test_methods(self):
        for kind, methods in METHODS.items():
            owner = getattr(module("machine"), kind)
            self.assertEqual(owner.__module__, "deepedge.machine")
            for name, signature in methods.items():
                self.assertEqual(str(inspect.signature(vars(owner)[name])), signature, (kind, name))
            self.assertIsInstance(vars(owner)["read"], classmethod)
            self.assertEqual(str(inspect.signature(owner.read)), "(text)")

    def test_properties(self):
        machine = module("machine")
        for kind, name, assigned in [
            (machine.Machine, "stack", False), (machine.Machine, "height", False), (machine.Machine, "steps_done", False),
            (machine.Machine, "reach", True), (machine.BoundedMachine, "most", True),
        ]:
            self.assertIsInstance(vars(kind)[name], property)
            self.assertEqual(vars(kind)[name].fset is not None, assigned)


if __name__ == "__main__":
    unittest.main()
