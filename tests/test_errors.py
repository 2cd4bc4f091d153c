"""[8]: the errors, their bases and their attributes."""

import unittest

from deepedge import errors

EXPECTED = {
    "InvalidStack": ("EdgeError", ["index"]),
    "InvalidShuffle": ("EdgeError", ["index"]),
    "InvalidReach": ("EdgeError", ["value"]),
    "InvalidWanted": ("EdgeError", ["value"]),
    "InvalidStep": ("EdgeError", ["index"]),
    "InvalidCertificate": ("EdgeError", ["reason"]),
    "Fault": ("EdgeError", ["index", "instruction"]),
    "TooLow": ("EdgeError", ["depth"]),
    "Blocked": ("EdgeError", ["certificate"]),
    "Overloaded": ("EdgeError", ["step"]),
    "ParseError": ("EdgeError", ["line", "word"]),
    "UnknownCommand": ("EdgeError", ["command"]),
    "NoFloor": ("KeyError", ["floor"]),
    "NoName": ("KeyError", ["name"]),
    "UnknownOperation": ("KeyError", ["name"]),
    "NoMember": ("IndexError", ["index"]),
    "NothingToUndo": ("LookupError", ["count"]),
    "TooMany": ("OverflowError", ["limit"]),
    "TooHigh": ("OverflowError", ["most"]),
}
BUILTIN = {
    "KeyError": KeyError, "IndexError": IndexError, "LookupError": LookupError, "OverflowError": OverflowError,
}


class ErrorTest(unittest.TestCase):
    def test_base_class(self):
        self.assertEqual(errors.EdgeError.__bases__, (ValueError,))

    def test_bases(self):
        for name, (base, _) in EXPECTED.items():
            expected = errors.EdgeError if base == "EdgeError" else BUILTIN[base]
            self.assertEqual(getattr(errors, name).__bases__, (expected,), name)

    def test_no_other_relations(self):
        for one in EXPECTED:
            for other in EXPECTED:
                related = issubclass(getattr(errors, one), getattr(errors, other))
                self.assertEqual(related, one == other, (one, other))
            inherits = EXPECTED[one][0] == "EdgeError"
            self.assertEqual(issubclass(getattr(errors, one), errors.EdgeError), inherits, one)

    def test_attributes_by_position_and_by_name(self):
        for name, (_, attributes) in EXPECTED.items():
            for told in ([[1], {"a": None}], [None, ()], [True, "x"]):
                told = told[:len(attributes)]
                by_position = getattr(errors, name)(*told)
                by_name = getattr(errors, name)(**dict(zip(attributes, told)))
                for attribute, thing in zip(attributes, told):
                    self.assertIs(getattr(by_position, attribute), thing, name)
                    self.assertIs(getattr(by_name, attribute), thing, name)

    def test_arguments_are_demanded(self):
        for name, (_, attributes) in EXPECTED.items():
            with self.assertRaises(TypeError):
                getattr(errors, name)()
            with self.assertRaises(TypeError):
                getattr(errors, name)(*range(len(attributes) + 1))

    def test_defined_here(self):
        for name in ["EdgeError", *EXPECTED]:
            self.assertEqual(getattr(errors, name).__module__, "deepedge.errors")


if __name__ == "__main__":
    unittest.main()
