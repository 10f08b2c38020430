"""The error classes of allbrokers.errors."""

import unittest

from allbrokers import errors

PLAIN = ("BadStates", "BadAllowances", "BadKinds", "BadFormula", "NoPromise", "TooLarge", "BadPrices", "NoSettings",
         "NotSeen", "NothingDone")
PLACED = ("BadMachine", "BadRun")
NAMED = ("BadSettings", "BadName", "NoPart")


class Errors(unittest.TestCase):
    def test_base(self):
        self.assertEqual(errors.BrokerError.__bases__, (ValueError,))

    def test_all_are_direct_subclasses(self):
        for name in PLAIN + PLACED + NAMED + ("BadText",):
            self.assertEqual(getattr(errors, name).__bases__, (errors.BrokerError,), name)

    def test_no_other_classes(self):
        found = {name for name, value in vars(errors).items() if isinstance(value, type)}
        self.assertEqual(found, {"BrokerError", "BadText", *PLAIN, *PLACED, *NAMED})

    def test_attributes(self):
        for name in PLACED:
            self.assertEqual(getattr(errors, name)(4).place, 4)
            self.assertIsNone(getattr(errors, name)(None).place)
        for name in NAMED:
            self.assertEqual(getattr(errors, name)("room").name, "room")
        found = errors.BadText(3, 7)
        self.assertEqual((found.line, found.column), (3, 7))
