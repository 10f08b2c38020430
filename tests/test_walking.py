"""Walking through machines: point [3]."""

import itertools
import unittest

from allbrokers.errors import BadRun
from allbrokers.machines import Machine
from allbrokers.walking import far_states, is_seen, runs, stepper
from brute import rng_of, some_machine


def all_runs(machine, most):
    found = [[]] if most >= 0 else []
    for length in range(1, most + 1):
        for steps in itertools.product(machine.steps, repeat=length):
            ends = [0] + [step[3] for step in steps]
            if all(step[0] == end for step, end in zip(steps, ends)):
                found.append(list(steps))
    return sorted(found, key=lambda run: (len(run), run))


class Runs(unittest.TestCase):
    def test_example(self):
        machine = Machine(2, [(0, "", "", 1), (1, "x", "", 0)])
        go = stepper(machine)
        found = [len(list(runs(machine, 3))), go(), go((1, "x", "", 0)), len(list(runs(machine, 3, kinds=())))]
        self.assertEqual(found, [4, 1, 0, 2])

    def test_at_random(self):
        rng = rng_of(4)
        for _ in range(60):
            machine = some_machine(rng, most_states=3, most_steps=5)
            expected = all_runs(machine, 4)
            self.assertEqual(list(runs(machine, 4)), expected)
            for kinds in ((), ("x",), ("x", "y"), ("z",)):
                fewer = [run for run in expected if all(not step[1] or step[1] in kinds for step in run)]
                self.assertEqual(list(runs(machine, 4, kinds=kinds)), fewer)

    def test_edges(self):
        loop = Machine(1, [(0, "", "", 0)])
        self.assertEqual(list(runs(loop, 0)), [[]])
        self.assertEqual(list(runs(Machine(1, []), 50)), [[]])
        self.assertEqual(len(list(runs(Machine(2, [(0, "", "", 1)]), 10 ** 12))), 2)
        for most in (-1, -2, -10 ** 12):
            self.assertEqual(list(runs(loop, most)), [])

    def test_is_lazy_and_gives_new_lists(self):
        loop = Machine(1, [(0, "", "", 0)])
        found = []
        for run in itertools.islice(runs(loop, 10 ** 12), 20):
            found.append(len(run))
            run.clear()
        self.assertEqual(found, list(range(20)))


class Stepper(unittest.TestCase):
    def setUp(self):
        self.machine = Machine(3, [(0, "", "b", 1), (0, "", "a", 2), (1, "x", "", 0), (2, "", "", 2)])

    def test_goes_on(self):
        go = stepper(self.machine)
        self.assertEqual([go((0, "", "b", 1)), go((1, "x", "", 0)), go(), go(), go((2, "", "", 2))], [1, 0, 2, 2, 2])

    def test_first_own_step(self):
        self.assertEqual(stepper(self.machine)(), 2)

    def test_two_walkers(self):
        one, other = stepper(self.machine), stepper(self.machine)
        self.assertEqual([one((0, "", "b", 1)), other(), one((1, "x", "", 0)), other()], [1, 2, 0, 2])

    def test_refused(self):
        go = stepper(self.machine)
        go((0, "", "b", 1))
        for step in ((0, "", "b", 1), (1, "x", "a", 0), (1, "x", "", 2), None, 3, "x", (), (True, "x", "", 0), [1, "x", "", 0]):
            with self.assertRaises(BadRun, msg=step) as caught:
                go(step)
            self.assertEqual(caught.exception.place, 1)
        with self.assertRaises(BadRun) as caught:
            go()
        self.assertEqual(caught.exception.place, 1)
        self.assertEqual(go((1, "x", "", 0)), 0)
        self.assertEqual(go(), 2)

    def test_whatever_is_no_step_is_refused(self):
        values = [("no", "step", "told"), ("",), (0, "", ""), (), None, 0, "", [], {}, False, (0, "", "a", 2, 0), object(), stepper]
        for value in values:
            go = stepper(self.machine)
            for many in range(2):
                with self.assertRaises(BadRun, msg=value) as caught:
                    go(value)
                self.assertEqual(caught.exception.place, many)
                self.assertEqual(go(), 2)

    def test_by_name(self):
        go = stepper(self.machine)
        self.assertEqual(go(step=(0, "", "b", 1)), 1)
        with self.assertRaises(BadRun):
            go(step=None)

    def test_no_steps(self):
        with self.assertRaises(BadRun) as caught:
            stepper(Machine(1, []))()
        self.assertEqual(caught.exception.place, 0)


class IsSeen(unittest.TestCase):
    def test_is_seen(self):
        run = [(0, "", "a", 1), (1, "x", "", 0), (0, "", "b", 1), (1, "x", "a", 0)]
        for words in ((), ("a",), ("b",), ("a", "b"), ("a", "a"), ("b", "a"), ("a", "b", "a")):
            self.assertTrue(is_seen(run, *words), words)
        for words in (("c",), ("b", "b"), ("b", "a", "b"), ("a", "b", "a", "a"), ("",)):
            self.assertFalse(is_seen(run, *words), words)
        self.assertTrue(is_seen([]))
        self.assertFalse(is_seen([], "a"))


class FarStates(unittest.TestCase):
    def test_far_states(self):
        machine = Machine(5, [(0, "", "", 4), (4, "x", "", 2), (0, "x", "", 3), (3, "", "", 2), (2, "", "", 0)])
        self.assertEqual(far_states(machine), {0: 0, 2: 2, 3: 1, 4: 1})
        self.assertEqual(list(far_states(machine)), [0, 2, 3, 4])
        self.assertEqual(far_states(machine, most=0), {0: 0})
        self.assertEqual(far_states(machine, most=1), {0: 0, 3: 1, 4: 1})
        self.assertEqual(far_states(machine, most=10 ** 9), far_states(machine))
        for most in (-1, -2, -10 ** 9):
            self.assertEqual(far_states(machine, most=most), {})

    def test_at_random(self):
        rng = rng_of(5)
        for _ in range(60):
            machine = some_machine(rng, most_states=4, most_steps=6)
            for most in (-1, 0, 1, 2, 3):
                expected = {}
                for run in all_runs(machine, most):
                    expected.setdefault(run[-1][3] if run else 0, len(run))
                self.assertEqual(far_states(machine, most=most), expected)
            self.assertEqual(list(far_states(machine)), machine.reached())
