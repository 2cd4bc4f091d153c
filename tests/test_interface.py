"""[2] and the interface: where each name is defined, and what its arguments are called."""

import importlib
import inspect
import unittest

FUNCTIONS = {
    "values": {
        "is_value": "(thing)", "is_stack": "(thing)", "is_reach": "(thing)", "make_stack": "(*values)",
    },
    "instructions": {
        "is_instruction": "(thing, *, reach=40)", "is_shuffle": "(thing, *, reach=40)", "shuffle": "(*parts)",
        "cells_needed": "(instruction)", "height_change": "(instruction)",
    },
    "machine": {
        "run": "(stack, *parts, reach=16)", "trace": "(stack, *parts, reach=16)",
        "lowest_height": "(stack, *parts, reach=16)", "untouched": "(stack, *parts, reach=16)",
    },
    "cards": {
        "card_of": "(*parts)", "is_card": "(thing)", "apply_card": "(stack, card)", "compose": "(*cards)",
    },
    "effects": {"same_effect": "(one, other)", "separating_stack": "(one, other)"},
    "realize": {"realize": "(card)", "reach_needed": "(*parts)", "tidied": "(*parts)"},
    "floors": {
        "common_prefix": "(one, other)", "depth_of": "(target, *, reach=16)",
        "floors": "(stack, target, *, reach=16)", "profile": "(target, *, reach=16)",
    },
    "judge": {
        "reaches": "(stack, target, *, reach=16)", "equivalent": "(one, other, *, reach=16)",
        "decide": "(stack, target, *, reach=16)",
    },
    "blocked": {"check_blocked": "(stack, target, value, *, reach=16)"},
    "building": {
        "build": "(stack, target, *, reach=16, floor=None)",
        "building_steps": "(stack, target, *, reach=16, floor=None)",
    },
    "touched": {"descend": "(stack, height, *keep, reach=16)", "never_higher": "(stack, *parts)"},
    "layers": {"shortest": "(stack, target, *, reach=16, limit=500)"},
    "layercheck": {"check_layers": "(stack, target, value, *, reach=16)"},
    "reaches": {
        "least_reach": "(stack, target)", "helpful_pushes": "(stack, target, *, reach=16)",
    },
    "renaming": {"renamed": "(stack, **names)", "raised": "(bottom, *stacks)"},
    "words": {"surjections": "(length, letters)", "covering": "(length, letters, needed)"},
    "targets": {
        "count_targets": "(stack, height, *, reach=16, beginning=())", "target_index": "(stack, target, *, reach=16)",
        "target_at": "(stack, height, index, *, reach=16)", "targets": "(stack, height, *, reach=16)",
    },
    "sources": {"count_sources": "(target, height, values, *, reach=16)"},
    "losses": {
        "lost_count": "(stack, height, *, reach=16)", "first_lost": "(stack, height, *, reach=16)",
        "pop_loses": "(stack, *, reach=16)",
    },
    "layouts": {"layout_for": "(*stacks, wanted=(), reach=16)"},
    "layoutcheck": {"check_barred": "(stacks, wanted, value, *, reach=16)"},
}
METHODS = {
    "Machine": {
        "__init__": "(self, stack=(), *, reach=16)", "change": "(self, **settings)", "do": "(self, *parts)",
        "undo": "(self, count=1)", "trial": "(self, deed)", "twin": "(self)", "__len__": "(self)",
        "__eq__": "(self, other)", "__str__": "(self)", "__repr__": "(self)",
    },
    "BoundedMachine": {
        "__init__": "(self, stack=(), *, reach=16, most=40)", "change": "(self, **settings)", "do": "(self, *parts)",
        "trial": "(self, deed)", "twin": "(self)", "__eq__": "(self, other)", "__str__": "(self)",
        "__repr__": "(self)",
    },
}
GENERATORS = {("machine", "trace"), ("building", "building_steps"), ("targets", "targets")}


STACK, TARGET = ("a", "b", "c", "d"), ("a", "c", "b", "d")
ROWS = (("edge", 0, ("b", "c", "d")),)
# Arguments by the names of the interface; those that can be passed by position come first, in order.
NAMED = [
    ("touched", "descend", {"stack": STACK, "height": 2}, {"reach": 2}),
    ("touched", "never_higher", {"stack": STACK}, {}),
    ("layers", "shortest", {"stack": STACK, "target": TARGET}, {"limit": 300, "reach": 3}),
    ("layercheck", "check_layers", {"stack": STACK, "target": TARGET, "value": ((STACK,),)}, {"reach": 2}),
    ("reaches", "least_reach", {"stack": STACK, "target": TARGET[1:]}, {}),
    ("reaches", "helpful_pushes", {"stack": STACK, "target": TARGET}, {"reach": 3}),
    ("renaming", "renamed", {"stack": STACK}, {"b": "x", "a": "b"}),
    ("renaming", "raised", {"bottom": STACK}, {}),
    ("words", "surjections", {"length": 5, "letters": 3}, {}),
    ("words", "covering", {"length": 5, "letters": 3, "needed": 2}, {}),
    ("targets", "count_targets", {"stack": STACK, "height": 5}, {"beginning": ("a", "b"), "reach": 2}),
    ("targets", "target_index", {"stack": STACK, "target": ("a", "d", "b", "c")}, {"reach": 2}),
    ("targets", "target_at", {"stack": STACK, "height": 5, "index": 70}, {"reach": 2}),
    ("targets", "targets", {"stack": STACK, "height": 3}, {"reach": 2}),
    ("sources", "count_sources", {"target": TARGET, "height": 5, "values": ("d", "c", "b", "a")}, {"reach": 2}),
    ("losses", "lost_count", {"stack": STACK, "height": 4}, {"reach": 2}),
    ("losses", "first_lost", {"stack": STACK, "height": 4}, {"reach": 2}),
    ("losses", "pop_loses", {"stack": STACK}, {"reach": 2}),
    ("layoutcheck", "check_barred", {"stacks": (STACK, TARGET[1:]), "wanted": ("d", "b", "c"), "value": ROWS}, {"reach": 2}),
]


def module(name):
    return importlib.import_module("deepedge." + name)


class InterfaceTest(unittest.TestCase):
    def test_functions(self):
        for file, functions in FUNCTIONS.items():
            for name, signature in functions.items():
                function = getattr(module(file), name)
                self.assertEqual(str(inspect.signature(function)), signature, name)
                self.assertEqual(function.__module__, "deepedge." + file)
                self.assertEqual(inspect.isgeneratorfunction(function), (file, name) in GENERATORS)

    def test_arguments_by_name(self):
        for file, name, placed, named in NAMED:
            function = getattr(module(file), name)
            told = [function(*placed.values(), **named)]
            every = {**placed, **named}
            for order in (list(every), list(every)[::-1], sorted(every)):
                told.append(function(**{key: every[key] for key in order}))
            if inspect.isgeneratorfunction(function):
                told = [list(steps) for steps in told]
            self.assertEqual(told[1:], told[:1] * 3, name)

    def test_methods(self):
        for kind, methods in METHODS.items():
            owner = getattr(module("machine"), kind)
            self.assertEqual(owner.__module__, "deepedge.machine")
            for name, signature in methods.items():
                self.assertEqual(str(inspect.signature(vars(owner)[name])), signature, (kind, name))
            self.assertIsInstance(vars(owner)["read"], classmethod)
            self.assertEqual(str(inspect.signature(owner.read)), "(text)")

    def test_properties(self):
        machine = module("machine")
        for kind, name, assigned in [
            (machine.Machine, "stack", False), (machine.Machine, "height", False), (machine.Machine, "steps_done", False),
            (machine.Machine, "reach", True), (machine.BoundedMachine, "most", True),
        ]:
            self.assertIsInstance(vars(kind)[name], property)
            self.assertEqual(vars(kind)[name].fset is not None, assigned)


if __name__ == "__main__":
    unittest.main()
