"""[2] and the interface: where each name is defined, and what its arguments are called."""

import importlib
import inspect
import unittest

FUNCTIONS = {
    "values": {
        "is_value": "(thing)", "is_stack": "(thing)", "is_reach": "(thing)", "make_stack": "(*values)",
    },
    "instructions": {
        "is_instruction": "(thing, *, reach=40)", "is_shuffle": "(thing, *, reach=40)", "shuffle": "(*parts)",
        "cells_needed": "(instruction)", "height_change": "(instruction)",
    },
    "machine": {
        "run": "(stack, *parts, reach=16)", "trace": "(stack, *parts, reach=16)",
        "lowest_height": "(stack, *parts, reach=16)", "untouched": "(stack, *parts, reach=16)",
    },
    "cards": {
        "card_of": "(*parts)", "is_card": "(thing)", "apply_card": "(stack, card)", "compose": "(*cards)",
    },
    "effects": {"same_effect": "(one, other)", "separating_stack": "(one, other)"},
    "realize": {"realize": "(card)", "reach_needed": "(*parts)", "tidied": "(*parts)"},
    "floors": {
        "common_prefix": "(one, other)", "depth_of": "(target, *, reach=16)",
        "floors": "(stack, target, *, reach=16)", "profile": "(target, *, reach=16)",
    },
    "judge": {
        "reaches": "(stack, target, *, reach=16)", "equivalent": "(one, other, *, reach=16)",
        "decide": "(stack, target, *, reach=16)",
    },
    "blocked": {"check_blocked": "(stack, target, value, *, reach=16)"},
    "building": {
        "build": "(stack, target, *, reach=16, floor=None)",
        "building_steps": "(stack, target, *, reach=16, floor=None)",
    },
    "touched": {"descend": "(stack, height, *keep, reach=16)", "never_higher": "(stack, *parts)"},
    "layers": {"shortest": "(stack, target, *, reach=16, limit=500)"},
    "layercheck": {"check_layers": "(stack, target, value, *, reach=16)"},
    "reaches": {
        "least_reach": "(stack, target)", "helpful_pushes": "(stack, target, *, reach=16)",
    },
    "renaming": {"renamed": "(stack, **names)", "raised": "(bottom, *stacks)"},
    "words": {"surjections": "(length, letters)", "covering": "(length, letters, needed)"},
    "targets": {
        "count_targets": "(stack, height, *, reach=16, beginning=())", "target_index": "(stack, target, *, reach=16)",
        "target_at": "(stack, height, index, *, reach=16)", "targets": "(stack, height, *, reach=16)",
    },
    "sources": {"count_sources": "(target, height, values, *, reach=16)"},
    "losses": {
        "lost_count": "(stack, height, *, reach=16)", "first_lost": "(stack, height, *, reach=16)",
        "pop_loses": "(stack, *, reach=16)",
    },
    "layouts": {"layout_for": "(*stacks, wanted=(), reach=16)"},
    "layoutcheck": {"check_barred": "(stacks, wanted, value, *, reach=16)"},
    "steps": {
        "is_step": "(thing)", "is_call": "(thing)", "is_code": "(thing, *, reach=40)",
        "live_values": "(steps, target=())",
    },
    "assembling": {"assemble": "(start, steps, *, target=(), reach=16)"},
    "running": {"execute": "(code, stack, *, reach=16, **operations)"},
    "formatting": {
        "stack_text": "(stack)", "shuffle_text": "(instructions)", "card_text": "(card)", "code_text": "(code)",
        "certificate_text": "(certificate)",
    },
    "parsing": {"parse_stack": "(text)", "parse_shuffle": "(text)", "parse_card": "(text)", "parse_code": "(text)"},
    "literals": {
        "run_with": "(stack, *parts, constants=(), reach=16)",
        "reaches_with": "(stack, target, *, constants=(), reach=16)",
        "decide_with": "(stack, target, *, constants=(), reach=16)",
    },
    "literalcheck": {"check_with": "(stack, target, value, *, constants=(), reach=16)"},
    "literalbuild": {"build_with": "(stack, target, *, constants=(), reach=16)"},
    "permuting": {
        "cycles_of": "(stack, target, *, reach=16)", "least_swaps": "(stack, target, *, reach=16)",
        "most_swaps": "(cells)", "check_swaps": "(stack, target, value, *, reach=16)",
    },
}
# The file of each class, its methods and the properties that it has itself, with True where one can be assigned.
CLASSES = {
    "Machine": ("machine", {
        "__init__": "(self, stack=(), *, reach=16)", "change": "(self, **settings)", "do": "(self, *parts)",
        "undo": "(self, count=1)", "trial": "(self, deed)", "twin": "(self)", "__len__": "(self)",
        "__eq__": "(self, other)", "__str__": "(self)", "__repr__": "(self)",
    }, {"stack": False, "height": False, "steps_done": False, "reach": True}),
    "BoundedMachine": ("machine", {
        "__init__": "(self, stack=(), *, reach=16, most=40)", "change": "(self, **settings)", "do": "(self, *parts)",
        "trial": "(self, deed)", "twin": "(self)", "__eq__": "(self, other)", "__str__": "(self)",
        "__repr__": "(self)",
    }, {"most": True}),
    "Join": ("joins", {
        "__init__": "(self, *stacks, wanted=(), reach=16)", "change": "(self, **settings)", "add": "(self, stack)",
        "remove": "(self, index)", "shuffles": "(self)", "undo": "(self)", "__len__": "(self)",
        "__eq__": "(self, other)", "__str__": "(self)", "__repr__": "(self)",
    }, {"stacks": False, "layout": False, "rows": False, "wanted": True, "reach": True}),
    "Loop": ("joins", {
        "__init__": "(self, *stacks, wanted=(), reach=16, uses=1)", "back_shuffle": "(self)", "__eq__": "(self, other)",
        "__str__": "(self)", "__repr__": "(self)",
    }, {"uses": False}),
    "Problem": ("problem", {
        "__init__": "(self, start=(), goal=(), *, reach=16)", "change": "(self, **settings)", "shuffle": "(self)",
        "evidence": "(self)", "swapped": "(self)", "__eq__": "(self, other)", "__str__": "(self)",
        "__repr__": "(self)",
    }, {
        "start": True, "goal": True, "reach": True, "answer": False, "reachable": False, "goal_depth": False,
        "least": False,
    }),
    "Desk": ("desk", {"__init__": "(self, text='')", "execute": "(self, command)"}, {}),
}
GENERATORS = {("machine", "trace"), ("building", "building_steps"), ("targets", "targets")}
GENERATOR_METHODS = {("Join", "shuffles")}


STACK, TARGET = ("a", "b", "c", "d"), ("a", "c", "b", "d")
ROWS = (("edge", 0, ("b", "c", "d")),)
STEPS = (("f", ("d", "a"), "e"), ("g", ("b",), "x"))
CODE = (("dup", 3), ("call", "max", 2), ("call", "f", 2))
MISSING = (0, (), "missing", "x")
# Arguments by the names of the interface; those that can be passed by position come first, in order.
NAMED = [
    ("touched", "descend", {"stack": STACK, "height": 2}, {"reach": 2}),
    ("touched", "never_higher", {"stack": STACK}, {}),
    ("layers", "shortest", {"stack": STACK, "target": TARGET}, {"limit": 300, "reach": 3}),
    ("layercheck", "check_layers", {"stack": STACK, "target": TARGET, "value": ((STACK,),)}, {"reach": 2}),
    ("reaches", "least_reach", {"stack": STACK, "target": TARGET[1:]}, {}),
    ("reaches", "helpful_pushes", {"stack": STACK, "target": TARGET}, {"reach": 3}),
    ("renaming", "renamed", {"stack": STACK}, {"b": "x", "a": "b"}),
    ("renaming", "raised", {"bottom": STACK}, {}),
    ("words", "surjections", {"length": 5, "letters": 3}, {}),
    ("words", "covering", {"length": 5, "letters": 3, "needed": 2}, {}),
    ("targets", "count_targets", {"stack": STACK, "height": 5}, {"beginning": ("a", "b"), "reach": 2}),
    ("targets", "target_index", {"stack": STACK, "target": ("a", "d", "b", "c")}, {"reach": 2}),
    ("targets", "target_at", {"stack": STACK, "height": 5, "index": 70}, {"reach": 2}),
    ("targets", "targets", {"stack": STACK, "height": 3}, {"reach": 2}),
    ("sources", "count_sources", {"target": TARGET, "height": 5, "values": ("d", "c", "b", "a")}, {"reach": 2}),
    ("losses", "lost_count", {"stack": STACK, "height": 4}, {"reach": 2}),
    ("losses", "first_lost", {"stack": STACK, "height": 4}, {"reach": 2}),
    ("losses", "pop_loses", {"stack": STACK}, {"reach": 2}),
    ("layoutcheck", "check_barred", {"stacks": (STACK, TARGET[1:]), "wanted": ("d", "b", "c"), "value": ROWS}, {"reach": 2}),
    ("steps", "is_step", {"thing": STEPS[0]}, {}),
    ("steps", "is_call", {"thing": CODE[1]}, {}),
    ("steps", "is_code", {"thing": CODE}, {"reach": 2}),
    ("steps", "live_values", {"steps": STEPS, "target": ("c", "e")}, {}),
    ("assembling", "assemble", {"start": STACK, "steps": STEPS}, {"target": ("e", "c"), "reach": 4}),
    ("running", "execute", {"code": CODE, "stack": (7, 5, 6)}, {"reach": 3, "max": max, "f": lambda *told: len(told)}),
    ("formatting", "stack_text", {"stack": STACK}, {}),
    ("formatting", "shuffle_text", {"instructions": CODE[:1]}, {}),
    ("formatting", "card_text", {"card": (3, (2, 1))}, {}),
    ("formatting", "code_text", {"code": CODE}, {}),
    ("formatting", "certificate_text", {"certificate": (0, (), "edge", ("b", "c", "d"))}, {}),
    ("parsing", "parse_stack", {"text": "a b"}, {}),
    ("parsing", "parse_shuffle", {"text": "pop dup2"}, {}),
    ("parsing", "parse_card", {"text": "3: 2 1"}, {}),
    ("parsing", "parse_code", {"text": "pop max/2\nf/0"}, {}),
    ("literals", "run_with", {"stack": STACK}, {"constants": ("k",), "reach": 2}),
    ("literals", "reaches_with", {"stack": STACK, "target": TARGET[1:]}, {"constants": ("d",), "reach": 2}),
    ("literals", "decide_with", {"stack": STACK, "target": TARGET[1:]}, {"constants": ("d",), "reach": 2}),
    ("literalcheck", "check_with", {"stack": STACK, "target": ("x", "k"), "value": MISSING}, {"constants": ("k",), "reach": 2}),
    ("literalbuild", "build_with", {"stack": STACK, "target": TARGET[1:]}, {"constants": ("d",), "reach": 2}),
    ("permuting", "cycles_of", {"stack": STACK, "target": TARGET}, {"reach": 2}),
    ("permuting", "least_swaps", {"stack": STACK, "target": TARGET}, {"reach": 3}),
    ("permuting", "most_swaps", {"cells": 5}, {}),
    ("permuting", "check_swaps", {"stack": STACK, "target": TARGET, "value": (3, ((1, 2),))}, {"reach": 2}),
    # What stage 1 and 2 listed.
    ("values", "is_value", {"thing": "a"}, {}),
    ("values", "is_stack", {"thing": STACK}, {}),
    ("values", "is_reach", {"thing": 2}, {}),
    ("instructions", "is_instruction", {"thing": ("dup", 3)}, {"reach": 2}),
    ("instructions", "is_shuffle", {"thing": (("dup", 3),)}, {"reach": 3}),
    ("instructions", "cells_needed", {"instruction": ("swap", 3)}, {}),
    ("instructions", "height_change", {"instruction": ("pop",)}, {}),
    ("machine", "run", {"stack": STACK}, {"reach": 2}),
    ("machine", "trace", {"stack": STACK}, {"reach": 2}),
    ("machine", "lowest_height", {"stack": STACK}, {"reach": 2}),
    ("machine", "untouched", {"stack": STACK}, {"reach": 2}),
    ("machine", "Machine", {"stack": STACK}, {"reach": 3}),
    ("machine", "BoundedMachine", {"stack": STACK}, {"reach": 3, "most": 5}),
    ("cards", "is_card", {"thing": (1, (1,))}, {}),
    ("cards", "apply_card", {"stack": STACK, "card": (2, (2, 1, 2))}, {}),
    ("effects", "same_effect", {"one": (("swap", 1),), "other": ()}, {}),
    ("effects", "separating_stack", {"one": (("swap", 1),), "other": ()}, {}),
    ("realize", "realize", {"card": (2, (2, 2, 1))}, {}),
    ("floors", "common_prefix", {"one": STACK, "other": TARGET}, {}),
    ("floors", "depth_of", {"target": TARGET}, {"reach": 2}),
    ("floors", "floors", {"stack": STACK, "target": STACK}, {"reach": 2}),
    ("floors", "profile", {"target": TARGET}, {"reach": 2}),
    ("judge", "reaches", {"stack": STACK, "target": TARGET[1:]}, {"reach": 3}),
    ("judge", "equivalent", {"one": STACK, "other": TARGET}, {"reach": 2}),
    ("judge", "decide", {"stack": STACK, "target": TARGET[1:]}, {"reach": 2}),
    ("blocked", "check_blocked", {"stack": STACK, "target": ("b", "x"), "value": MISSING}, {"reach": 2}),
    ("building", "build", {"stack": STACK, "target": STACK[:1] * 3}, {"floor": 0, "reach": 2}),
    ("building", "building_steps", {"stack": STACK, "target": STACK[:1] * 3}, {"floor": 0, "reach": 2}),
    ("problem", "Problem", {"start": STACK, "goal": TARGET}, {"reach": 3}),
]


def module(name):
    return importlib.import_module("deepedge." + name)


class InterfaceTest(unittest.TestCase):
    def test_functions(self):
        for file, functions in FUNCTIONS.items():
            for name, signature in functions.items():
                function = getattr(module(file), name)
                self.assertEqual(str(inspect.signature(function)), signature, name)
                self.assertEqual(function.__module__, "deepedge." + file)
                self.assertEqual(inspect.isgeneratorfunction(function), (file, name) in GENERATORS)

    def test_arguments_by_name(self):
        for file, name, placed, named in NAMED:
            function = getattr(module(file), name)
            told = [function(*placed.values(), **named)]
            every = {**placed, **named}
            for order in (list(every), list(every)[::-1], sorted(every)):
                told.append(function(**{key: every[key] for key in order}))
            if inspect.isgeneratorfunction(function):
                told = [list(steps) for steps in told]
            self.assertEqual(told[1:], told[:1] * 3, name)

    def test_methods(self):
        for kind, (file, methods, _) in CLASSES.items():
            owner = getattr(module(file), kind)
            self.assertEqual(owner.__module__, "deepedge." + file)
            for name, signature in methods.items():
                method = vars(owner)[name]
                self.assertEqual(str(inspect.signature(method)), signature, (kind, name))
                self.assertEqual(inspect.isgeneratorfunction(method), (kind, name) in GENERATOR_METHODS)
            if kind != "Desk":
                self.assertIsInstance(vars(owner)["read"], classmethod)
                self.assertEqual(str(inspect.signature(owner.read)), "(text)")

    def test_properties(self):
        for kind, (file, _, properties) in CLASSES.items():
            for name, assigned in properties.items():
                prop = vars(getattr(module(file), kind))[name]
                self.assertIsInstance(prop, property)
                self.assertEqual(prop.fset is not None, assigned, (kind, name))


if __name__ == "__main__":
    unittest.main()
