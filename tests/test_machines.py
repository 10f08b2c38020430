"""Machines and runs: points [1] and [2]."""

import unittest

from allbrokers.errors import BadMachine, BadRun, BadStates
from allbrokers.machines import Machine, last_state, trace_of, union
from brute import rng_of, some_machine


class Machines(unittest.TestCase):
    def test_example(self):
        machine = Machine(3, [(0, "", "", 1), (1, "loss", "", 0), (1, "", "done", 2)])
        found = [machine.kinds, machine.words, machine.behind(1), last_state(machine, [(0, "", "", 1), (1, "", "done", 2)])]
        self.assertEqual(found, [["loss"], ["done"], [(1, "", "done", 2), (1, "loss", "", 0)], 2])

    def test_steps_ascend_each_once(self):
        steps = [(1, "x", "", 0), (0, "", "b", 1), (0, "", "a", 1), (1, "x", "", 0), (0, "", "a", 0)]
        machine = Machine(2, steps)
        self.assertEqual(machine.steps, ((0, "", "a", 0), (0, "", "a", 1), (0, "", "b", 1), (1, "x", "", 0)))
        self.assertIs(type(machine.steps), tuple)
        self.assertEqual(len(steps), 5)
        self.assertEqual(Machine(2, tuple(steps)), machine)

    def test_kinds_and_words_ascend(self):
        machine = Machine(1, [(0, "z", "b", 0), (0, "ab", "", 0), (0, "", "a", 0), (0, "z", "", 0)])
        self.assertEqual((machine.kinds, machine.words), (["ab", "z"], ["a", "b"]))

    def test_one_state_no_steps(self):
        machine = Machine(1, [])
        self.assertEqual((len(machine), machine.steps, machine.kinds, machine.words), (1, (), [], []))
        self.assertEqual((machine.behind(0), machine.reached()), ([], [0]))

    def test_3000_states(self):
        machine = Machine(3000, [(state, "", "", state + 1) for state in range(2999)])
        self.assertEqual(len(machine), 3000)
        self.assertEqual(machine.reached(), list(range(3000)))
        self.assertEqual(machine.behind(2999), [])

    def test_given_steps_are_not_kept(self):
        steps = [(0, "", "", 0)]
        machine = Machine(2, steps)
        steps.append((0, "", "", 1))
        self.assertEqual(machine.steps, ((0, "", "", 0),))

    def test_bad_number_or_list(self):
        for many in (0, -1, 3001, True, False, "3", None, 2.0, [1]):
            with self.assertRaises(BadMachine) as caught:
                Machine(many, [])
            self.assertIsNone(caught.exception.place)
        for steps in (None, {(0, "", "", 0): 1}, {(0, "", "", 0)}, "", iter([])):
            with self.assertRaises(BadMachine) as caught:
                Machine(1, steps)
            self.assertIsNone(caught.exception.place)

    def test_bad_number_comes_ahead_of_bad_step(self):
        with self.assertRaises(BadMachine) as caught:
            Machine(0, [7])
        self.assertIsNone(caught.exception.place)

    def test_bad_steps(self):
        good = (0, "", "", 1)
        bad = [None, 3, "abcd", [0, "", "", 1], (0, "", ""), (0, "", "", 1, 1), (2, "", "", 0), (0, "", "", 2),
               (-1, "", "", 0), (0, "", "", -1), (True, "", "", 0), (0, "", "", False), (0, "X", "", 1),
               (0, "", "A", 1), (0, "abcdefghi", "", 1), (0, "", "abcdefghi", 1), (0, None, "", 1), (0, "", None, 1),
               (0, "a b", "", 1), (0, "", "a1", 1), (0, "\u00e4", "", 1), (0, [], "", 1), (0, "", 4, 1), (0.0, "", "", 1)]
        for step in bad:
            with self.assertRaises(BadMachine, msg=step) as caught:
                Machine(2, [good, good, step, None])
            self.assertEqual(caught.exception.place, 2, step)

    def test_longest_words(self):
        machine = Machine(1, [(0, "abcdefgh", "stuvwxyz", 0)])
        self.assertEqual((machine.kinds, machine.words), (["abcdefgh"], ["stuvwxyz"]))

    def test_behind(self):
        machine = Machine(2, [(0, "x", "", 1), (0, "", "b", 0), (1, "", "", 1)])
        self.assertEqual(machine.behind(0), [(0, "", "b", 0), (0, "x", "", 1)])
        machine.behind(0).append(5)
        self.assertEqual(len(machine.behind(0)), 2)
        for state in (2, -1, True, None, "0", (0,)):
            with self.assertRaises(BadStates):
                machine.behind(state)

    def test_reached(self):
        machine = Machine(5, [(0, "x", "", 4), (4, "", "", 2), (1, "", "", 3), (2, "", "", 0)])
        self.assertEqual(machine.reached(), [0, 2, 4])
        machine.reached().clear()
        self.assertEqual(machine.reached(), [0, 2, 4])

    def test_without(self):
        machine = Machine(2, [(0, "x", "", 1), (0, "y", "", 1), (0, "", "a", 1)])
        self.assertEqual(machine.without("x").steps, ((0, "", "a", 1), (0, "y", "", 1)))
        self.assertEqual(machine.without("x", "y").steps, ((0, "", "a", 1),))
        self.assertEqual(machine.without(), machine)
        self.assertEqual(machine.without("z"), machine)
        self.assertEqual(machine.without(""), machine)
        self.assertEqual(len(machine.without("x", "y")), 2)
        self.assertEqual(len(machine.steps), 3)

    def test_showing(self):
        self.assertEqual(Machine.showing("b", "a"), Machine(3, [(0, "", "b", 1), (1, "", "a", 2)]))
        self.assertEqual(Machine.showing("b", kind="x"), Machine(2, [(0, "x", "b", 1)]))
        self.assertEqual(Machine.showing(), Machine(1, []))

    def test_equality(self):
        one = Machine(2, [(0, "", "", 1)])
        self.assertEqual(one, Machine(2, [(0, "", "", 1), (0, "", "", 1)]))
        self.assertNotEqual(one, Machine(3, [(0, "", "", 1)]))
        self.assertNotEqual(one, Machine(2, [(0, "", "a", 1)]))
        self.assertFalse(one == 5)
        self.assertTrue(one != ((0, "", "", 1),))


class Runs(unittest.TestCase):
    def setUp(self):
        self.machine = Machine(3, [(0, "", "a", 1), (1, "x", "", 0), (1, "", "b", 2)])

    def test_last_state(self):
        self.assertEqual(last_state(self.machine, []), 0)
        self.assertEqual(last_state(self.machine, ()), 0)
        self.assertEqual(last_state(self.machine, [(0, "", "a", 1)]), 1)
        self.assertEqual(last_state(self.machine, ((0, "", "a", 1), (1, "x", "", 0), (0, "", "a", 1), (1, "", "b", 2))), 2)

    def test_last_state_of_no_list(self):
        for run in (None, "", {}, {(0, "", "a", 1)}, 3):
            with self.assertRaises(BadRun) as caught:
                last_state(self.machine, run)
            self.assertIsNone(caught.exception.place)

    def test_last_state_of_no_run(self):
        first = (0, "", "a", 1)
        for step in (first, (1, "", "", 2), (1, "x", "", 2), None, (1, "x"), (True, "x", "", False), [1, "x", "", 0], ([], 1, 2, 3)):
            with self.assertRaises(BadRun) as caught:
                last_state(self.machine, [first, step, first])
            self.assertEqual(caught.exception.place, 1, step)
        with self.assertRaises(BadRun) as caught:
            last_state(self.machine, [(1, "", "b", 2)])
        self.assertEqual(caught.exception.place, 0)

    def test_trace_of(self):
        self.assertEqual(trace_of([(0, "", "a", 1), (1, "x", "", 0), (0, "", "a", 1), (1, "", "b", 2)]), ["a", "a", "b"])
        self.assertEqual(trace_of([]), [])
        self.assertEqual(trace_of([(0, "x", "b", 1)]), ["b"])


class Unions(unittest.TestCase):
    def test_union(self):
        one, other = Machine(2, [(0, "x", "a", 1)]), Machine(1, [(0, "", "b", 0)])
        found = union(one, other)
        steps = [(0, "", "", 1), (0, "", "", 3), (1, "x", "a", 2), (3, "", "b", 3)]
        self.assertEqual(found, Machine(4, steps))

    def test_union_at_random(self):
        rng = rng_of(11)
        for _ in range(50):
            one, other = some_machine(rng), some_machine(rng)
            found = union(one, other)
            n = len(one)
            self.assertEqual(len(found), 1 + n + len(other))
            expected = {(0, "", "", 1), (0, "", "", 1 + n)}
            expected |= {(s + 1, k, w, g + 1) for s, k, w, g in one.steps}
            expected |= {(s + 1 + n, k, w, g + 1 + n) for s, k, w, g in other.steps}
            self.assertEqual(set(found.steps), expected)

    def test_too_many(self):
        self.assertEqual(len(union(Machine(2000, []), Machine(999, []))), 3000)
        with self.assertRaises(BadMachine) as caught:
            union(Machine(2000, []), Machine(1000, []))
        self.assertIsNone(caught.exception.place)
