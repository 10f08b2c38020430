"""Delays: point [7]."""

import unittest

from allbrokers.delays import Endless, Longest, delay
from allbrokers.machines import Machine
from brute import ends_within, most_own_steps, rng_of, some_allowances, some_machine, some_states
from test_promises import wrong_calls

STEPS = [(0, "", "", 1), (1, "", "", 2), (0, "", "", 2), (2, "x", "", 3), (3, "", "", 3)]
MACHINE = Machine(4, STEPS)
RUN = [(0, "", "", 1), (1, "", "", 2)]
RANKS, COSTS = {0: 2, 1: 1, 2: 0}, {0: [(0,)], 1: [(0,)], 2: [(0,)]}


class Delay(unittest.TestCase):
    def test_example(self):
        found = [delay(MACHINE, (2,), {}).number, delay(MACHINE, (2,), {"x": 1}).loop]
        self.assertEqual(found, [2, [(3, "", "", 3)]])

    def test_longest(self):
        found = delay(MACHINE, (2,), {})
        self.assertEqual((found.run, found.ranks, bool(found)), (RUN, RANKS, True))
        self.assertTrue(found.shows(MACHINE, (2,), {}))

    def test_endless(self):
        found = delay(MACHINE, (2,), {"x": None})
        self.assertEqual((found.loop, bool(found)), ([(3, "", "", 3)], False))
        self.assertTrue(found.shows(MACHINE, (2,), {"x": None}))

    def test_goals_stop_loops(self):
        found = delay(MACHINE, (3,), {"x": 1})
        self.assertEqual(found.number, 2)
        self.assertEqual(delay(MACHINE, (0, 3), {"x": 1}).number, 1)
        self.assertEqual(delay(Machine(1, [(0, "", "", 0)]), (0,), {}).number, 0)
        self.assertFalse(delay(Machine(1, [(0, "", "", 0)]), (), {}))

    def test_no_steps_and_no_goals(self):
        found = delay(Machine(1, []), (), {})
        self.assertEqual((found.number, found.run), (0, []))
        self.assertTrue(found.shows(Machine(1, []), (), {}))
        self.assertEqual(delay(MACHINE, (), {}).number, 2)

    def test_states_that_no_run_reaches_do_not_count(self):
        machine = Machine(3, [(1, "", "", 1), (2, "", "", 0), (0, "x", "", 1)])
        self.assertEqual(delay(machine, (), {}).number, 0)

    def test_falls_in_front(self):
        machine = Machine(4, [(0, "x", "", 1), (1, "", "", 2), (2, "", "", 3)])
        found = delay(machine, (), {"x": 1})
        self.assertEqual((found.number, len(found.run)), (2, 3))
        self.assertTrue(found.shows(machine, (), {"x": 1}))

    def test_loop_of_falls_is_none_of_own_steps(self):
        machine = Machine(2, [(0, "", "", 1), (1, "x", "", 0)])
        self.assertEqual(delay(machine, (), {"x": None}).number, 1)

    def test_long(self):
        machine = Machine(3000, [(s, "", "", g) for s in range(3000) for g in (s + 1, s + 2) if g < 3000])
        found = delay(machine, (), {})
        self.assertEqual(found.number, 2999)
        self.assertTrue(found.shows(machine, (), {}))
        ring = Machine(3000, [(s, "", "", (s + 1) % 3000) for s in range(3000)])
        found = delay(ring, (), {})
        self.assertEqual(len(found.loop), 3000)
        self.assertTrue(found.shows(ring, (), {}))

    def test_at_random(self):
        rng = rng_of(31)
        for _ in range(500):
            machine = some_machine(rng, most_states=6, most_steps=9, own=0.6)
            goals, allowances = some_states(rng, machine), some_allowances(rng, machine)
            numbers = [most_own_steps(machine, goals, state) for state in ends_within(machine, allowances)]
            found = delay(machine, goals, allowances)
            self.assertEqual(bool(found), None not in numbers)
            self.assertTrue(found.shows(machine, goals, allowances))
            if found:
                self.assertEqual(found.number, max(numbers))

    def test_errors(self):
        wrong_calls(self, lambda goals, allowances: delay(MACHINE, goals, allowances))
        wrong_calls(self, lambda goals, allowances: Longest(0, [], {}, {}).shows(MACHINE, goals, allowances))
        wrong_calls(self, lambda goals, allowances: Endless([], []).shows(MACHINE, goals, allowances))


class Evidence(unittest.TestCase):
    def longest(self, number=2, run=RUN, ranks=None, costs=None, goals=(2,), allowances=None):
        found = Longest(number, run, RANKS if ranks is None else ranks, COSTS if costs is None else costs)
        return found.shows(MACHINE, goals, allowances or {})

    def test_longest(self):
        self.assertTrue(self.longest())
        self.assertTrue(self.longest(run=tuple(RUN)))
        self.assertTrue(self.longest(costs={**COSTS, 3: [(1,)]}))
        self.assertTrue(self.longest(ranks={**RANKS, 3: -5}))
        self.assertFalse(self.longest(allowances={"x": 1}))
        self.assertFalse(self.longest(goals=(1,)))

    def test_longest_wrong_numbers(self):
        for number in (-1, 0, 1, 3, 4):
            self.assertFalse(self.longest(number=number), number)
        self.assertFalse(self.longest(number=1, run=RUN[:1]))
        self.assertFalse(self.longest(number=3, ranks={0: 3, 1: 2, 2: 0}))

    def test_longest_wrong_runs(self):
        for run in ([], RUN[:1], RUN[1:], [(0, "", "", 2)], [(0, "", "", 2), (2, "", "", 2)], RUN + [(2, "x", "", 3)]):
            self.assertFalse(self.longest(run=run), run)
        machine = Machine(3, [(0, "", "", 1), (1, "", "", 2)])
        costs = {0: [()], 1: [()], 2: [()]}
        run = [(0, "", "", 1), (1, "", "", 2)]
        self.assertTrue(Longest(1, run[:1], {0: 1, 1: 0, 2: 0}, costs).shows(machine, (1, 2), {}) is True)
        self.assertFalse(Longest(1, run, {0: 1, 1: 0, 2: 0}, costs).shows(machine, (1, 2), {}))
        falls = Machine(3, [(0, "x", "", 1), (1, "", "", 2)])
        found = delay(falls, (), {"x": 1})
        self.assertEqual(found.number, 1)
        found.number = 2
        found.ranks = {0: 2, 1: 1, 2: 0}
        self.assertFalse(found.shows(falls, (), {"x": 1}))

    def test_longest_runs_must_be_within_the_allowances(self):
        machine = Machine(3, [(0, "", "", 1), (0, "x", "", 2), (2, "", "", 1)])
        ranks, costs = {0: 1, 1: 0}, {0: [(0,)], 1: [(0,)]}
        self.assertTrue(Longest(1, [(0, "", "", 1)], ranks, costs).shows(machine, (), {}))
        for run in ([(0, "x", "", 2), (2, "", "", 1)], [(2, "", "", 1)], [(0, "", "", 2)]):
            self.assertFalse(Longest(1, run, ranks, costs).shows(machine, (), {}), run)

    def test_longest_wrong_ranks(self):
        for ranks in ({0: 2, 1: 1}, {0: 2, 1: 2, 2: 0}, {0: 3, 1: 1, 2: 0}, {0: 2, 1: 1, 2: -1}, {0: 1, 1: 1, 2: 0},
                      {0: 2, 1: 0, 2: 0}, {}, {**RANKS, 4: 0}, {**RANKS, -1: 0}):
            self.assertFalse(self.longest(ranks=ranks), ranks)

    def test_longest_wrong_costs(self):
        for costs in ({}, {0: [(0,)]}, {**COSTS, 0: [(1,)]}, {**COSTS, 2: []}, {**COSTS, 4: [(1,)]}, {**COSTS, 3: [(0,)]}):
            self.assertFalse(self.longest(costs=costs), costs)

    def test_endless(self):
        run, loop = [(0, "", "", 2), (2, "x", "", 3)], [(3, "", "", 3)]

        def shows(run, loop, goals=(2,), allowances=None):
            return Endless(run, loop).shows(MACHINE, goals, {"x": 1} if allowances is None else allowances)

        self.assertTrue(shows(run, loop))
        self.assertTrue(shows(tuple(run), loop * 2))
        self.assertTrue(shows(run + loop, loop, goals=()))
        for wrong in ([], [(3, "x", "", 3)], [(3, "", "", 2)], [(2, "", "", 2)], [(0, "", "", 1)], loop + [(3, "", "a", 3)]):
            self.assertFalse(shows(run, wrong), wrong)
        for wrong in ([], run[:1], run[1:], [(0, "x", "", 3)]):
            self.assertFalse(shows(wrong, loop), wrong)
        self.assertFalse(shows(run, loop, goals=(3,)))
        self.assertFalse(shows(run, loop, allowances={}))

    def test_endless_with_a_goal_or_a_fall_in_the_loop(self):
        machine = Machine(3, [(0, "", "", 1), (1, "", "", 0), (1, "x", "", 2), (2, "", "", 1)])
        loop = [(0, "", "", 1), (1, "", "", 0)]
        self.assertTrue(Endless([], loop).shows(machine, (2,), {}))
        self.assertFalse(Endless([], loop).shows(machine, (1,), {}))
        self.assertFalse(Endless([], loop).shows(machine, (0,), {}))
        self.assertFalse(Endless([], loop[:1]).shows(machine, (), {}))
        falls = [(1, "x", "", 2), (2, "", "", 1)]
        self.assertFalse(Endless(loop[:1], falls).shows(machine, (), {"x": None}))

    def test_equality_copies_and_truth(self):
        run, loop, ranks, costs = [1], [2], {0: 1}, {0: [(0,)]}
        one, other = Longest(1, run, ranks, costs), Endless(tuple(run), tuple(loop))
        for given in (run, loop, ranks, costs[0]):
            given.clear()
        self.assertEqual((one.run, one.ranks, one.costs, other.run, other.loop), ([1], {0: 1}, {0: [(0,)]}, [1], [2]))
        self.assertEqual(one, Longest(1, (1,), {0: 1}, {0: ((0,),)}))
        for wrong in (Longest(2, [1], {0: 1}, {0: [(0,)]}), Longest(1, [], {0: 1}, {0: [(0,)]}), other,
                      Longest(1, [1], {}, {0: [(0,)]}), Longest(1, [1], {0: 1}, {})):
            self.assertFalse(one == wrong)
        self.assertEqual(other, Endless([1], [2]))
        self.assertNotEqual(other, Endless([1], [1]))
        self.assertNotEqual(other, Endless([2], [2]))
        self.assertEqual((bool(one), bool(other)), (True, False))
