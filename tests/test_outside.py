"""What is seen from outside: point [8]."""

import itertools
import unittest

from allbrokers.errors import BadKinds
from allbrokers.machines import Machine
from allbrokers.outside import Alike, Unlike, is_trace, judge_alike
from brute import ends_behind, first_unlike, rng_of, some_machine

ONE = Machine(2, [(0, "", "a", 1)])
OTHER = Machine(3, [(0, "", "a", 1), (1, "x", "b", 2)])
WRONG_FREE = (["x"], None, "x", ("X",), ("",), ("y", "x"), ("x", "x"), (1,), {"x": 1}, ("abcdefghi",), (None,))


class Alikes(unittest.TestCase):
    def test_example(self):
        found = judge_alike(ONE, OTHER, ("x",))
        self.assertEqual([bool(judge_alike(ONE, OTHER, ())), found.trace, found.is_first], [True, ["a", "b"], False])

    def test_is_first(self):
        found = judge_alike(OTHER, ONE, ("x",))
        self.assertEqual((found.trace, found.is_first), (["a", "b"], True))

    def test_free_kinds_that_no_machine_has(self):
        self.assertTrue(judge_alike(ONE, OTHER, ("w", "z")))
        self.assertFalse(judge_alike(ONE, OTHER, ("w", "x", "z")))

    def test_no_steps(self):
        found = judge_alike(Machine(1, []), Machine(2, [(1, "", "a", 0)]), ())
        self.assertEqual(found.pairs, [((0,), (0,))])
        self.assertTrue(found.shows(Machine(1, []), Machine(2, [(1, "", "a", 0)]), ()))

    def test_unseen_loops(self):
        one = Machine(2, [(0, "", "", 1), (1, "", "", 0), (1, "", "a", 1)])
        other = Machine(1, [(0, "", "a", 0)])
        found = judge_alike(one, other, ())
        self.assertEqual(found.pairs, [((0, 1), (0,))])
        self.assertTrue(found.shows(one, other, ()))

    def test_unseen_falls(self):
        one = Machine(2, [(0, "x", "", 1), (1, "", "a", 1)])
        other = Machine(1, [])
        self.assertTrue(judge_alike(one, other, ()))
        self.assertEqual(judge_alike(one, other, ("x",)), Unlike(["a"], True))

    def test_at_random(self):
        rng = rng_of(41)
        answers = set()
        for _ in range(400):
            one = some_machine(rng, most_states=4, most_steps=8, words=("a", "b", "c"), unseen=0.3)
            other = some_machine(rng, most_states=4, most_steps=8, unseen=0.3) if rng.random() < 0.7 else one
            free = tuple(sorted(rng.sample(["w", "x", "y"], rng.randint(0, 3))))
            found, length = judge_alike(one, other, free), first_unlike(one, other, free)
            answers.add(bool(found))
            self.assertTrue(found.shows(one, other, free))
            self.assertEqual(bool(found), length is None)
            if not found:
                self.assertEqual(len(found.trace), length)
                self.assertEqual(is_trace(one, found.trace, free), found.is_first)
                self.assertEqual(is_trace(other, found.trace, free), not found.is_first)
        self.assertEqual(answers, {True, False})

    def test_long(self):
        one = Machine(3000, [(s, "", "a", s + 1) for s in range(2999)])
        other = Machine(3000, list(one.steps) + [(2999, "", "b", 0)])
        found = judge_alike(one, other, ())
        self.assertEqual((len(found.trace), found.is_first), (3000, False))
        self.assertTrue(found.shows(one, other, ()))

    def test_bad_kinds(self):
        for free in WRONG_FREE:
            for call in (judge_alike, Alike([]).shows, Unlike([], True).shows):
                with self.assertRaises(BadKinds):
                    call(ONE, OTHER, free)


class Evidence(unittest.TestCase):
    def setUp(self):
        self.one = Machine(3, [(0, "", "a", 1), (1, "", "", 2), (2, "", "b", 0)])
        self.other = Machine(4, [(0, "", "a", 1), (1, "", "b", 2), (2, "", "a", 1), (3, "", "b", 3)])
        self.pairs = [((0,), (0,)), ((1, 2), (1,)), ((0,), (2,))]

    def test_alike(self):
        self.assertEqual(sorted(judge_alike(self.one, self.other, ()).pairs), sorted(self.pairs))
        self.assertTrue(Alike(self.pairs).shows(self.one, self.other, ()))
        self.assertTrue(Alike(tuple(self.pairs[::-1])).shows(self.one, self.other, ()))
        self.assertTrue(Alike(self.pairs + [((2,), (1,))]).shows(self.one, self.other, ()))
        self.assertTrue(Alike(self.pairs + self.pairs).shows(self.one, self.other, ()))

    def test_wrong_pairs(self):
        for at in range(3):
            self.assertFalse(Alike(self.pairs[:at] + self.pairs[at + 1:]).shows(self.one, self.other, ()), at)
        for pair in (((1,), (1,)), ((2, 1), (1,)), ((1, 1, 2), (1,)), ((1, 3), (1,)), ((-1,), (0,)), ((0,), (4,)),
                     ((2,), (3,)), ((0,), (1,)), ((0, 1, 2), (0,)), ((0,), ())):
            self.assertFalse(Alike(self.pairs + [pair]).shows(self.one, self.other, ()), pair)
        self.assertFalse(Alike([]).shows(self.one, self.other, ()))

    def test_tuples_must_have_all_that_unseen_steps_lead_to(self):
        one, other = Machine(3, [(1, "", "", 2)]), Machine(3, [(1, "", "", 2)])
        for pair, is_so in ((((1, 2), (1, 2)), True), (((1,), (2,)), False), (((2,), (1,)), False), (((2,), (2,)), True)):
            self.assertEqual(Alike([((0,), (0,)), pair]).shows(one, other, ()), is_so)

    def test_words_of_one_alone(self):
        none, seen = Machine(1, []), Machine(1, [(0, "", "a", 0)])
        for pairs in ([((0,), (0,))], [((0,), (0,)), ((), (0,))], [((0,), (0,)), ((0,), ())]):
            self.assertFalse(Alike(pairs).shows(none, seen, ()))
            self.assertFalse(Alike(pairs).shows(seen, none, ()))

    def test_pairs_of_other_free_kinds(self):
        one, other = Machine(2, [(0, "x", "", 1)]), Machine(1, [])
        self.assertTrue(Alike([((0,), (0,))]).shows(one, other, ()))
        self.assertFalse(Alike([((0,), (0,))]).shows(one, other, ("x",)))
        self.assertTrue(Alike([((0, 1), (0,))]).shows(one, other, ("x",)))
        self.assertFalse(Alike([((0, 1), (0,))]).shows(one, other, ()))

    def test_unlike(self):
        self.assertTrue(Unlike(("a", "b"), False).shows(ONE, OTHER, ("x",)))
        self.assertFalse(Unlike(["a", "b"], True).shows(ONE, OTHER, ("x",)))
        self.assertFalse(Unlike(["a", "b"], False).shows(ONE, OTHER, ()))
        for trace in ([], ["a"], ["b"], ["a", "b", "b"], ["b", "a"]):
            for is_first in (True, False):
                self.assertFalse(Unlike(trace, is_first).shows(ONE, OTHER, ("x",)), trace)

    def test_unlike_must_be_shortest(self):
        one = Machine(2, [(0, "", "a", 1), (1, "", "a", 1), (1, "", "b", 1), (0, "", "c", 0)])
        other = Machine(2, [(0, "", "a", 1), (1, "", "a", 1)])
        self.assertTrue(Unlike(["c"], True).shows(one, other, ()))
        self.assertFalse(Unlike(["a", "b"], True).shows(one, other, ()))

    def test_equality_copies_and_truth(self):
        pairs, trace = list(self.pairs), ["a"]
        one, other = Alike(pairs), Unlike(trace, True)
        pairs.clear()
        trace.clear()
        self.assertEqual((one.pairs, other.trace), (self.pairs, ["a"]))
        self.assertEqual(one, Alike(tuple(self.pairs)))
        self.assertEqual(other, Unlike(("a",), True))
        self.assertNotEqual(one, Alike([]))
        self.assertNotEqual(other, Unlike(["a"], False))
        self.assertNotEqual(other, Unlike([], True))
        self.assertFalse(one == other)
        self.assertEqual((bool(one), bool(other)), (True, False))


class Traces(unittest.TestCase):
    def test_is_trace(self):
        self.assertTrue(is_trace(ONE, [], ()))
        self.assertTrue(is_trace(ONE, ["a"], ()))
        self.assertFalse(is_trace(ONE, ["a", "a"], ()))
        self.assertFalse(is_trace(OTHER, ["a", "b"], ()))
        self.assertTrue(is_trace(OTHER, ("a", "b"), ("x",)))
        self.assertFalse(is_trace(Machine(2, [(0, "", "", 1)]), [""], ()))

    def test_at_random(self):
        rng = rng_of(42)
        for _ in range(100):
            machine = some_machine(rng, unseen=0.3)
            free = tuple(sorted(rng.sample(["x", "y"], rng.randint(0, 2))))
            for length in range(4):
                for trace in itertools.product("ab", repeat=length):
                    self.assertEqual(is_trace(machine, list(trace), free), bool(ends_behind(machine, trace, free)))

    def test_bad_kinds(self):
        for free in WRONG_FREE:
            with self.assertRaises(BadKinds):
                is_trace(ONE, [], free)
