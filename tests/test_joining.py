"""Machines side by side: point [12]."""

import unittest

from allbrokers.errors import BadKinds, TooLarge
from allbrokers.joining import hidden, joined, renamed
from allbrokers.machines import Machine
from allbrokers.merging import do_the_same
from brute import rng_of, some_machine


def pair_steps(one, other, shared):
    """All steps between all pairs of states, reached or not."""
    found = []
    for p in range(len(one)):
        for q in range(len(other)):
            for state, kind, seen, goal in one.steps:
                if state == p and seen not in shared:
                    found.append(((p, q), kind, seen, (goal, q)))
            for state, kind, seen, goal in other.steps:
                if state == q and seen not in shared:
                    found.append(((p, q), kind, seen, (p, goal)))
            for s in one.steps:
                for t in other.steps:
                    if s[0] == p and t[0] == q and s[2] == t[2] and s[2] in shared and s[2] != "":
                        if "" in (s[1], t[1]) or s[1] == t[1]:
                            found.append(((p, q), s[1] or t[1], s[2], (s[3], t[3])))
    return found


def all_pairs(one, other, shared):
    def number(pair):
        return pair[0] * len(other) + pair[1]

    steps = pair_steps(one, other, shared)
    return Machine(len(one) * len(other), [(number(p), kind, seen, number(q)) for p, kind, seen, q in steps])


class Joined(unittest.TestCase):
    def test_example(self):
        one = Machine(2, [(0, "", "a", 1)])
        found = [do_the_same(joined(one, one, ("a",)), one), do_the_same(joined(one, one, ()), one), hidden(one, "a").steps]
        self.assertEqual(found, [True, False, ((0, "", "", 1),)])

    def test_at_random(self):
        rng = rng_of(12)
        for _ in range(150):
            one, other = some_machine(rng, most_states=4, most_steps=7), some_machine(rng, most_states=4, most_steps=7)
            for shared in ((), ("a",), ("b",), ("a", "b"), ("zz",)):
                found, expected = joined(one, other, shared), all_pairs(one, other, shared)
                self.assertTrue(do_the_same(found, expected))
                self.assertEqual(len(found), len(expected.reached()))

    def test_falls_at_a_shared_word(self):
        def steps(kind, other_kind):
            one, other = Machine(2, [(0, kind, "a", 1)]), Machine(2, [(0, other_kind, "a", 1)])
            return [step[1:3] for step in joined(one, other, ("a",)).steps]

        self.assertEqual(steps("", ""), [("", "a")])
        self.assertEqual(steps("x", ""), [("x", "a")])
        self.assertEqual(steps("", "y"), [("y", "a")])
        self.assertEqual(steps("x", "x"), [("x", "a")])
        self.assertEqual(steps("x", "y"), [])

    def test_a_shared_word_waits_for_both(self):
        one, other = Machine(2, [(0, "", "a", 1)]), Machine(1, [])
        self.assertEqual(joined(one, other, ("a",)).steps, ())
        self.assertEqual(len(joined(one, other, ("b",)).steps), 1)

    def test_given_is_not_changed(self):
        one, other = Machine(2, [(0, "", "a", 1)]), Machine(2, [(0, "x", "a", 1)])
        joined(one, other, ("a",))
        self.assertEqual((one.steps, other.steps), (((0, "", "a", 1),), ((0, "x", "a", 1),)))

    def test_bad_kinds(self):
        big = Machine(60, [(state, "", "", state + 1) for state in range(59)])
        for shared in (["a"], "a", None, ("b", "a"), ("a", "a"), ("",), ("A",), (1,), ("abcdefghi",)):
            with self.assertRaises(BadKinds, msg=shared):
                joined(big, big, shared)

    def test_too_large(self):
        def line(many):
            return Machine(many, [(state, "", "", state + 1) for state in range(many - 1)])

        self.assertEqual(len(joined(line(60), line(50), ())), 3000)
        with self.assertRaises(TooLarge):
            joined(line(61), line(50), ())
        # Pairs that runs do not come to do not count.
        self.assertEqual(len(joined(Machine(3000, [(0, "", "a", 1)]), Machine(3000, [(0, "", "a", 2)]), ("a",))), 2)
        with self.assertRaises(TooLarge):
            joined(line(3000), line(3000), ())


class Hidden(unittest.TestCase):
    def setUp(self):
        self.machine = Machine(3, [(0, "a", "a", 1), (0, "", "b", 1), (1, "", "a", 2), (1, "", "b", 2), (2, "b", "c", 0)])

    def test_hidden(self):
        self.assertEqual(hidden(self.machine), self.machine)
        expected = Machine(3, [(0, "a", "", 1), (0, "", "b", 1), (1, "", "", 2), (1, "", "b", 2), (2, "b", "c", 0)])
        self.assertEqual(hidden(self.machine, "a"), expected)
        self.assertEqual(hidden(self.machine, "a", "a"), expected)
        every = Machine(3, [(0, "a", "", 1), (0, "", "", 1), (1, "", "", 2), (2, "b", "", 0)])
        self.assertEqual(hidden(self.machine, "c", "a", "b"), every)
        self.assertEqual(hidden(self.machine, "none"), self.machine)

    def test_bad_kinds(self):
        for words in (("A",), ("",), ("a", None), (("a",),), (["a"],), (3,), ("abcdefghi",)):
            with self.assertRaises(BadKinds, msg=words):
                hidden(self.machine, *words)


class Renamed(unittest.TestCase):
    def setUp(self):
        self.machine = Machine(3, [(0, "a", "a", 1), (0, "", "b", 1), (1, "x", "", 2), (2, "b", "c", 0)])

    def test_renamed(self):
        self.assertEqual(renamed(self.machine, {}), self.machine)
        swapped = Machine(3, [(0, "b", "b", 1), (0, "", "a", 1), (1, "x", "", 2), (2, "a", "c", 0)])
        self.assertEqual(renamed(self.machine, {"a": "b", "b": "a", "none": "c"}), swapped)
        self.assertEqual(renamed(swapped, {"a": "b", "b": "a"}), self.machine)

    def test_names_may_become_one(self):
        machine = Machine(2, [(0, "x", "a", 1), (0, "y", "a", 1), (0, "", "b", 1), (0, "", "a", 1)])
        self.assertEqual(renamed(machine, {"y": "x", "b": "a"}).steps, ((0, "", "a", 1), (0, "x", "a", 1)))

    def test_bad_kinds(self):
        for names in ([], None, "a", {"a": ""}, {"": "a"}, {"a": 1}, {1: "a"}, {"a": "A"}, {"a": None}, {("a",): "b"},
                      [("a", "b")], {"b": "a", "c": "abcdefghi"}):
            with self.assertRaises(BadKinds, msg=names):
                renamed(self.machine, names)
