"""Allowances as an object: point [3]."""

import unittest

from allbrokers.errors import BadAllowances
from allbrokers.limits import Limits
from brute import rng_of

KINDS = ("a", "b", "c", "abcdefgh")


def some_limits(rng):
    return {kind: rng.choice([0, 1, 2, 1234567, None]) for kind in KINDS if rng.random() < 0.6}


def high(limit):
    return float("inf") if limit is None else limit


class LimitsTest(unittest.TestCase):
    def test_example(self):
        one, other = Limits({"loss": 2}, fall=None), Limits(loss=3)
        found = [(one | other).told(), (one & other).told(), (one + other).told(), other.is_below(one), one.text(is_wide=True)]
        expected = [{"fall": None, "loss": 3}, {"loss": 2}, {"fall": None, "loss": 5}, False, "fall        any, loss          2"]
        self.assertEqual(found, expected)

    def test_joined(self):
        self.assertEqual(Limits({"x": 1, "y": 2}, y=None, a=3).told(), {"x": 1, "y": None, "a": 3})
        self.assertEqual(list(Limits({"x": 1, "y": 2}, y=None, a=3).told()), ["a", "x", "y"])
        self.assertEqual(Limits({"x": 1}, x=0).told(), {})
        self.assertEqual(Limits({"x": 0}, x=1).told(), {"x": 1})
        for empty in (Limits(), Limits(None), Limits({}), Limits({"x": 0})):
            self.assertEqual(empty.told(), {})

    def test_each_kind_by_name(self):
        for kind in ("self", "cls", "given", "more", "joined", "limits", "kind", "a", "abcdefgh"):
            self.assertEqual(Limits(**{kind: 2}).told(), {kind: 2})
            self.assertEqual(Limits({kind: 1}, **{kind: None}).told(), {kind: None})
            self.assertEqual(Limits({"x": 1}, **{kind: 0}).told(), {"x": 1})
        with self.assertRaises(BadAllowances):
            Limits(self=-1)
        self.assertEqual(Limits(told={"x": 1}, y=2).told(), {"x": 1, "y": 2})

    def test_given_is_copied(self):
        given = {"x": 1}
        limits = Limits(given)
        given["x"] = 5
        limits.told()["x"] = 7
        self.assertEqual(limits.told(), {"x": 1})

    def test_any_of(self):
        self.assertEqual(Limits.any_of("y", "x", "y").told(), {"x": None, "y": None})
        self.assertEqual(Limits.any_of(), Limits())

    def test_reading(self):
        limits = Limits(y=2, x=None, z=0)
        self.assertEqual((limits["x"], limits["y"], limits["z"], limits["other"]), (None, 2, 0, 0))
        self.assertEqual(("x" in limits, "y" in limits, "z" in limits, "w" in limits), (True, True, False, False))
        self.assertEqual((len(limits), list(limits), bool(limits), bool(Limits(z=0))), (2, ["x", "y"], True, False))

    def test_equality(self):
        self.assertEqual(Limits(x=1, y=0), Limits({"x": 1}))
        self.assertNotEqual(Limits(x=1), Limits(x=None))
        self.assertNotEqual(Limits(x=1), Limits(x=1, y=1))
        self.assertFalse(Limits(x=1) == {"x": 1})

    def test_minus_and_times(self):
        limits = Limits(x=2, y=None)
        self.assertEqual((limits - "x").told(), {"y": None})
        self.assertEqual((limits - "z"), limits)
        self.assertEqual((limits * 3).told(), {"x": 6, "y": None})
        self.assertEqual((limits * 1), limits)
        self.assertEqual((limits * 0).told(), {})
        self.assertEqual(limits.told(), {"x": 2, "y": None})

    def test_text(self):
        limits = Limits(b=12, abcdefgh=None)
        self.assertEqual(limits.text(), "abcdefgh any, b 12")
        self.assertEqual(limits.text(is_wide=True), "abcdefgh    any, b            12")
        self.assertEqual((Limits().text(), Limits().text(is_wide=True)), ("", ""))
        self.assertEqual(Limits(x=12345678).text(is_wide=True), "x        12345678")

    def test_at_random(self):
        rng = rng_of(3)
        for _ in range(300):
            left, right = some_limits(rng), some_limits(rng)
            one, other = Limits(left), Limits(right)
            for kind in KINDS:
                a, b = high(left.get(kind, 0)), high(right.get(kind, 0))
                self.assertEqual(high((one | other)[kind]), max(a, b))
                self.assertEqual(high((one & other)[kind]), min(a, b))
                self.assertEqual(high((one + other)[kind]), a + b)
            below = all(high(left.get(kind, 0)) <= high(right.get(kind, 0)) for kind in KINDS)
            self.assertEqual(one.is_below(other), below)
            for made in (one | other, one & other, one + other):
                self.assertEqual(list(made.told()), sorted(made.told()))
                self.assertNotIn(0, made.told().values())

    def test_bad_allowances(self):
        for told in ([], (), 0, "x", {"x": -1}, {"x": True}, {"x": "any"}, {"x": 1.5}, {"X": 1}, {"": 1}, {1: 1},
                     {"abcdefghi": 1}, {("x",): 1}, Limits(x=1)):
            with self.assertRaises(BadAllowances):
                Limits(told)
        for more in ({"X": 1}, {"x_y": 1}, {"x": -1}, {"x": False}, {"x": []}):
            with self.assertRaises(BadAllowances):
                Limits({"x": 1}, **more)
        for kinds in (("X",), ("x", 3), (None,), (["x"],), ("",)):
            with self.assertRaises(BadAllowances):
                Limits.any_of(*kinds)

    def test_bad_times(self):
        for many in (-1, True, None, "2", 1.0):
            with self.assertRaises(BadAllowances):
                Limits(x=1) * many
